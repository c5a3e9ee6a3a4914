/- The reader: the next bytes. -/
import Derived.Test.YtmcmapgllaopmaaCdRead
namespace Go.Proofs.Ytmcmapgllaopmaa.Cd
open Go.RowKit
set_option linter.unusedVariables false

def tkF (f : Int) (at' L n : Nat) : Int := if f = 0 ∧ L - at' < n then 14 else f
def tkA (f : Int) (at' L n : Nat) : Nat := if tkF f at' L n = 0 then at' + n else at'
def tkL (f : Int) (l : List Int) (at' L n : Nat) : List Int := if tkF f at' L n = 0 then (l.drop at').take n else []

/-- the bytes told, and the reader behind -/
def TakeRet (R N : Nat) (t : TypeId) (A : Option Addr) (L C : Nat) (l : List Int) (at' : Nat) (f : Int) (E : Nat → Value) (n : Nat) (w : World) (e : Ending) (w' : World) : Prop :=
  ∃ A' C', e = .returned (.slice A' (tkL f l at' L n).length C') ∧ RdB w' A' (tkL f l at' L n).length C' (tkL f l at' L n) ∧ (∀ K : Nat, (∀ x, A = some x → 0 < L → x.block ≠ K) → ∀ x, A' = some x → 0 < (tkL f l at' L n).length → x.block ≠ K) ∧
    Rdr w' R N t A L C l (tkA f at' L n) (tkF f at' L n) E ∧ w.grownBy w' (some R)

theorem tk_no {f : Int} (h : f ≠ 0) (l : List Int) (at' L n : Nat) : tkF f at' L n = f ∧ tkA f at' L n = at' ∧ tkL f l at' L n = [] := by
  have e : tkF f at' L n = f := by unfold tkF; rw [if_neg (fun hh => h hh.1)]
  refine ⟨e, ?_, ?_⟩
  · unfold tkA; rw [e, if_neg h]
  · unfold tkL; rw [e, if_neg h]
theorem tk_cut {f : Int} (h : f = 0) (l : List Int) (at' L n : Nat) (hn : L - at' < n) : tkF f at' L n = 14 ∧ tkA f at' L n = at' ∧ tkL f l at' L n = [] := by
  have e : tkF f at' L n = 14 := by unfold tkF; rw [if_pos ⟨h, hn⟩]
  refine ⟨e, ?_, ?_⟩
  · unfold tkA; rw [e, if_neg (by decide)]
  · unfold tkL; rw [e, if_neg (by decide)]
theorem tk_yes {f : Int} (h : f = 0) (l : List Int) (at' L n : Nat) (hn : n ≤ L - at') : tkF f at' L n = 0 ∧ tkA f at' L n = at' + n ∧ tkL f l at' L n = (l.drop at').take n := by
  have e : tkF f at' L n = 0 := by unfold tkF; rw [if_neg (fun hh => by omega), h]
  refine ⟨e, ?_, ?_⟩
  · unfold tkA; rw [e, if_pos rfl]
  · unfold tkL; rw [e, if_pos rfl]
theorem takeRet_of {R N : Nat} {t : TypeId} {A : Option Addr} {L C : Nat} {l : List Int} {at' : Nat} {f : Int} {E : Nat → Value} {n : Nat} {w : World} {e : Ending} {w' : World} {f2 : Int} {a2 : Nat} {l2 : List Int} (h : tkF f at' L n = f2 ∧ tkA f at' L n = a2 ∧ tkL f l at' L n = l2)
    {A' : Option Addr} {C' m : Nat} (hm : l2.length = m) (he : e = .returned (.slice A' m C')) (hr : RdB w' A' m C' l2) (hne : ∀ K : Nat, (∀ x, A = some x → 0 < L → x.block ≠ K) → ∀ x, A' = some x → 0 < m → x.block ≠ K) (hR : Rdr w' R N t A L C l a2 f2 E) (hg : w.grownBy w' (some R)) : TakeRet R N t A L C l at' f E n w e w' := by
  obtain ⟨rfl, rfl, rfl⟩ := h
  subst hm
  exact ⟨A', C', he, hr, hne, hR, hg⟩

theorem add_at (g o i p : Nat) (h : p = o + i) : Addr.add ⟨g, o, none⟩ i = (⟨g, p, none⟩ : Addr) := by
  unfold Addr.add
  subst h
  by_cases hz : i = 0
  · rw [if_pos hz, hz]; rfl
  · rw [if_neg hz]
theorem add_add' (x : Addr) (i j : Nat) : (x.add i).add j = x.add (i + j) := by
  unfold Addr.add
  by_cases hi : i = 0
  · subst hi; simp
  · by_cases hj : j = 0
    · subst hj; simp
    · simp [hi, hj, Nat.add_assoc]
theorem add_block (x : Addr) (i : Nat) : (x.add i).block = x.block := by unfold Addr.add; split <;> rfl
/-- a cut of bytes that are read -/
theorem rd_cut {w : World} {A : Option Addr} {L C : Nat} {l : List Int} (h : RdB w A L C l) (at' n : Nat) (hn : n ≤ L - at') (ha : at' ≤ L) (A' : Option Addr) (hA : A' = if C = at' then A else A.map (fun x => x.add at')) : RdB w A' n (C - at') ((l.drop at').take n) := by
  have hl := h.len
  have hc := h.cap
  have hm := h.max
  have hbg := h.big
  refine ⟨by rw [List.length_take, List.length_drop]; omega, by omega, by omega, by omega, ?_, ?_, ?_⟩
  · intro he
    rw [hA] at he
    by_cases e : C = at'
    · omega
    · rw [if_neg e] at he
      cases A with
      | none => have := h.none rfl; omega
      | some x => cases he
  · intro i hi
    have := h.byte (at' + i) (by omega)
    simpa [List.getD, hi] using this
  · intro x hx
    by_cases hz : n = 0
    · exact ⟨fun h0 => absurd h0 (by omega), fun i hi => absurd hi (by omega)⟩
    · rw [hA, if_neg (by omega)] at hx
      cases A with
      | none => cases hx
      | some y =>
        obtain rfl := Option.some.inj hx
        obtain ⟨h1, h2⟩ := h.cell y rfl
        refine ⟨fun _ => by rw [add_block]; exact h1 (by omega), fun i hi => ?_⟩
        rw [add_add', h2 (at' + i) (by omega)]
        simp [List.getD, hi]
theorem cut_apart {A : Option Addr} {L C R : Nat} (h : ∀ x, A = some x → 0 < L → x.block ≠ R) (at' n : Nat) (hn : n ≤ L - at') (A' : Option Addr) (hA : A' = if C = at' then A else A.map (fun x => x.add at')) : ∀ x, A' = some x → 0 < n → x.block ≠ R := by
  intro x hx h0
  rw [hA] at hx
  by_cases e : C = at'
  · rw [if_pos e] at hx; exact h x hx (by omega)
  · rw [if_neg e] at hx
    cases A with
    | none => cases hx
    | some y =>
      obtain rfl := Option.some.inj hx
      rw [add_block]; exact h y rfl (by omega)

theorem rd_empty (w : World) : RdB w none 0 0 [] := RdB.nil w

set_option maxHeartbeats 1000000 in
theorem take_any (R N : Nat) (t : TypeId) (A : Option Addr) (L C : Nat) (l : List Int) (at' : Nat) (f : Int) (E : Nat → Value) (n : Nat) (w : World) (h : Rdr w R N t A L C l at' f E) (hn : n ≤ 140737488355328) :
    Calls Try.prog 83 #[.pointer (some ⟨R, 0, none⟩), .int .i64 n] w (TakeRet R N t A L C l at' f E n w) := by
  have H := Lib.hid h
  have hle := h.le
  have hbig := h.rd.big
  have hcap := h.rd.cap
  have hmax := h.rd.max
  have hc0 := h.c0
  have hc1 := h.c1
  have HG0 := Lib.hid (World.grownBy.refl w (some R))
  have HOk := Lib.hid (fun (W : World) (g : Int) (a : Nat) (h : Rdr W R N t A L C l a g E) => ok_any R N t A L C l a g E W h)
  clear h
  by_cases h0 : f = 0
  · subst h0
    have HO1 : Hid (∀ n, Calls Try.prog 46 #[.pointer (some ⟨R, 0, none⟩)] (w.drewN n) fun e' w' => e' = .returned (.bool true) ∧ w' = w.drewN n) := Lib.hid (fun n => HOk.out _ 0 at' (H.out.drewN n))
    by_cases hcut : L - at' < n
    · have HT := Lib.hid (tk_cut (f := 0) rfl l at' L n hcut)
      have hdc : decide ((L : Int) - (at' : Int) < (n : Int)) = true := by simp; omega
      have HF := Lib.hid (fun k => fail_any R N t A L C l at' 0 14 E (w.drewN k) (H.out.drewN k))
      go_enter Try.func83, Try.ntmps83
      go_wp2_with fail
      go_quiet ((go_at_call 46; with_reducible exact Calls.quiet_of_same (HO1.out _)))
      go_wp2_with fail
      refine (HF.out _).mono ?_
      rintro e w1 ⟨rfl, hR, hg⟩
      have HR := Lib.hid hR
      have HG := Lib.hid (show w.grownBy w1 (some R) from ⟨hg.os, hg.tape, hg.output, hg.size, hg.block⟩)
      have HK : Hid (Calls Try.prog 46 #[.pointer (some ⟨R, 0, none⟩)] w1 fun e' w' => e' = .returned (.bool false) ∧ w' = w1) := Lib.hid (HOk.out w1 14 at' hR)
      clear hR hg HF HO1 HOk
      go_wp2_with fail
      refine HK.out.mono ?_
      rintro e w' ⟨rfl, rfl⟩
      go_wp2_with fail
      go_ret
      exact takeRet_of HT.out (m := 0) rfl rfl (rd_empty _) (fun K _ x hx => by cases hx) HR.out HG.out
    · have HT := Lib.hid (tk_yes (f := 0) rfl l at' L n (by omega))
      have hdc : decide ((L : Int) - (at' : Int) < (n : Int)) = false := by simp; omega
      have HK : Hid (∀ k, Calls Try.prog 46 #[.pointer (some ⟨R, 0, none⟩)] (w.drewN k) fun e' w' => e' = .returned (.bool true) ∧ w' = w.drewN k) := HO1
      obtain ⟨a2, ha2⟩ : ∃ a2, a2 = at' + n := ⟨_, rfl⟩
      have i1 : (at' : Int) + (n : Int) = (a2 : Int) := by omega
      have i2 : (a2 : Int) - (n : Int) = (at' : Int) := by omega
      have z1 : (0 : Int) ≤ (a2 : Int) := by omega
      have z2 : (a2 : Int) ≤ (L : Int) := by omega
      have z3 : (a2 : Int) ≤ (C : Int) := by omega
      have z4 : (at' : Int) ≤ (a2 : Int) := by omega
      have w1' : IntKind.i64.wrap (a2 : Int) = (a2 : Int) := IntWalk.i64_in _ (by omega)
      have w2' : IntKind.i64.wrap (at' : Int) = (at' : Int) := IntWalk.i64_in _ (by omega)
      have HF := Lib.hid (H.out.row.frozen 1)
      have HS := Lib.hid (fun k => (H.out.drewN k).setAt a2 (by omega))
      have HGs := Lib.hid (fun k => show w.grownBy ((w.drewN k).setCell ⟨R, 1, none⟩ (.int .i64 (a2 : Int))) (some R) from ⟨(grown_set (w.drewN k) R 1 _).os, (grown_set (w.drewN k) R 1 _).tape, (grown_set (w.drewN k) R 1 _).output, (grown_set (w.drewN k) R 1 _).size, (grown_set (w.drewN k) R 1 _).block⟩)
      have hfz : w.frozen? ⟨R, 1, none⟩ = false := HF.out
      have HA2 := Lib.hid ha2
      clear HF HOk ha2
      go_enter Try.func83, Try.ntmps83
      go_wp2_with fail
      go_quiet ((go_at_call 46; with_reducible exact Calls.quiet_of_same (HO1.out _)))
      go_wp2_with fail
      refine (HK.out _).mono ?_
      rintro e w' ⟨rfl, rfl⟩
      go_wp2_with fail
      have HS2 := Lib.hid (HS.out nq)
      have HG2 := Lib.hid (HGs.out nq)
      have hc0' := (HS.out nq).c0
      have hc1' := (HS.out nq).c1
      obtain ⟨A2, hA2⟩ : ∃ A2, A2 = (if C = at' then A else A.map (fun x => x.add at')) := ⟨_, rfl⟩
      have HRd := Lib.hid (rd_cut HS2.out.rd at' n (by omega) hle A2 hA2)
      have HNe := Lib.hid (fun (K : Nat) (hK : ∀ x, A = some x → 0 < L → x.block ≠ K) => cut_apart hK at' n (by omega) A2 hA2)
      have hcut2 := hA2.symm
      clear hA2 HS HGs hc0 hc1 H hfz HG0 HO1 HK
      generalize World.setCell _ _ _ = W at *
      go_quiet (fail)
      go_wp2_with fail
      go_ret
      have hm : a2 - at' = n := by have := HA2.out; omega
      have hT := HT.out
      rw [← HA2.out] at hT
      refine takeRet_of hT (m := a2 - at') ?_ rfl ?_ ?_ (HS2.out.drewN _) ⟨HG2.out.os, HG2.out.tape, HG2.out.output, HG2.out.size, HG2.out.block⟩
      · rw [hm]; exact HRd.out.len
      · rw [hm]; exact ⟨HRd.out.len, HRd.out.cap, HRd.out.max, HRd.out.big, HRd.out.none, HRd.out.byte, HRd.out.cell⟩
      · rw [hm]; exact HNe.out
  · have HT := Lib.hid (tk_no h0 l at' L n)
    have hd : (f == 0) = false := by simp [h0]
    have HO1 : Hid (∀ n, Calls Try.prog 46 #[.pointer (some ⟨R, 0, none⟩)] (w.drewN n) fun e' w' => e' = .returned (.bool false) ∧ w' = w.drewN n) := Lib.hid (fun n => by
      have h := HOk.out _ f at' (H.out.drewN n)
      rw [hd] at h
      exact h)
    clear h0 hd HOk
    go_enter Try.func83, Try.ntmps83
    go_wp2_with fail
    go_quiet ((go_at_call 46; with_reducible exact Calls.quiet_of_same (HO1.out _)))
    go_wp2_with fail
    refine (HO1.out _).mono ?_
    rintro e w' ⟨rfl, rfl⟩
    go_wp2_with fail
    go_ret
    exact takeRet_of HT.out (m := 0) rfl rfl (rd_empty _) (fun K _ x hx => by cases hx) (H.out.drewN _) ⟨HG0.out.os, HG0.out.tape, HG0.out.output, HG0.out.size, HG0.out.block⟩
end Go.Proofs.Ytmcmapgllaopmaa.Cd
