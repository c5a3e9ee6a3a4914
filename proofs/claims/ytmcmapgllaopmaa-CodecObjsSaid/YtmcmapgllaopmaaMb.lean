/- Texts of one's own, merged: CdTake, CdNumber, CdId, CdCheck, FrEnts, CdTr. -/
import Derived.Test.YtmcmapgllaopmaaMa
import Derived.Deep.RegionHeld3
import Derived.Deep.MidRow
import Derived.Deep.Slices
import Derived.Great.BuildSlice

section
/- The reader: the next bytes. -/
namespace Go.Proofs.Ytmcmapgllaopmaa.Cd
open Go.RowKit
set_option linter.unusedVariables false

def tkF (f : Int) (at' L n : Nat) : Int := if f = 0 ∧ L - at' < n then 14 else f
def tkA (f : Int) (at' L n : Nat) : Nat := if tkF f at' L n = 0 then at' + n else at'
def tkL (f : Int) (l : List Int) (at' L n : Nat) : List Int := if tkF f at' L n = 0 then (l.drop at').take n else []

/-- the bytes told, and the reader behind -/
def TakeRet (R N : Nat) (t : TypeId) (A : Option Addr) (L C : Nat) (l : List Int) (at' : Nat) (f : Int) (E : Nat → Value) (n : Nat) (w : World) (e : Ending) (w' : World) : Prop :=
  ∃ A' C', e = .returned (.slice A' (tkL f l at' L n).length C') ∧ RdB w' A' (tkL f l at' L n).length C' (tkL f l at' L n) ∧ (∀ K : Nat, (∀ x, A = some x → 0 < L → x.block ≠ K) → ∀ x, A' = some x → 0 < (tkL f l at' L n).length → x.block ≠ K) ∧
    Rdr w' R N t A L C l (tkA f at' L n) (tkF f at' L n) E ∧ w.grownBy w' (some R)

theorem tk_no {f : Int} (h : f ≠ 0) (l : List Int) (at' L n : Nat) : tkF f at' L n = f ∧ tkA f at' L n = at' ∧ tkL f l at' L n = [] := by
  have e : tkF f at' L n = f := by unfold tkF; rw [if_neg (fun hh => h hh.1)]
  refine ⟨e, ?_, ?_⟩
  · unfold tkA; rw [e, if_neg h]
  · unfold tkL; rw [e, if_neg h]
theorem tk_cut {f : Int} (h : f = 0) (l : List Int) (at' L n : Nat) (hn : L - at' < n) : tkF f at' L n = 14 ∧ tkA f at' L n = at' ∧ tkL f l at' L n = [] := by
  have e : tkF f at' L n = 14 := by unfold tkF; rw [if_pos ⟨h, hn⟩]
  refine ⟨e, ?_, ?_⟩
  · unfold tkA; rw [e, if_neg (by decide)]
  · unfold tkL; rw [e, if_neg (by decide)]
theorem tk_yes {f : Int} (h : f = 0) (l : List Int) (at' L n : Nat) (hn : n ≤ L - at') : tkF f at' L n = 0 ∧ tkA f at' L n = at' + n ∧ tkL f l at' L n = (l.drop at').take n := by
  have e : tkF f at' L n = 0 := by unfold tkF; rw [if_neg (fun hh => by omega), h]
  refine ⟨e, ?_, ?_⟩
  · unfold tkA; rw [e, if_pos rfl]
  · unfold tkL; rw [e, if_pos rfl]
theorem takeRet_of {R N : Nat} {t : TypeId} {A : Option Addr} {L C : Nat} {l : List Int} {at' : Nat} {f : Int} {E : Nat → Value} {n : Nat} {w : World} {e : Ending} {w' : World} {f2 : Int} {a2 : Nat} {l2 : List Int} (h : tkF f at' L n = f2 ∧ tkA f at' L n = a2 ∧ tkL f l at' L n = l2)
    {A' : Option Addr} {C' m : Nat} (hm : l2.length = m) (he : e = .returned (.slice A' m C')) (hr : RdB w' A' m C' l2) (hne : ∀ K : Nat, (∀ x, A = some x → 0 < L → x.block ≠ K) → ∀ x, A' = some x → 0 < m → x.block ≠ K) (hR : Rdr w' R N t A L C l a2 f2 E) (hg : w.grownBy w' (some R)) : TakeRet R N t A L C l at' f E n w e w' := by
  obtain ⟨rfl, rfl, rfl⟩ := h
  subst hm
  exact ⟨A', C', he, hr, hne, hR, hg⟩

theorem add_at (g o i p : Nat) (h : p = o + i) : Addr.add ⟨g, o, none⟩ i = (⟨g, p, none⟩ : Addr) := by
  unfold Addr.add
  subst h
  by_cases hz : i = 0
  · rw [if_pos hz, hz]; rfl
  · rw [if_neg hz]
theorem add_add' (x : Addr) (i j : Nat) : (x.add i).add j = x.add (i + j) := by
  unfold Addr.add
  by_cases hi : i = 0
  · subst hi; simp
  · by_cases hj : j = 0
    · subst hj; simp
    · simp [hi, hj, Nat.add_assoc]
theorem add_block (x : Addr) (i : Nat) : (x.add i).block = x.block := by unfold Addr.add; split <;> rfl
/-- a cut of bytes that are read -/
theorem rd_cut {w : World} {A : Option Addr} {L C : Nat} {l : List Int} (h : RdB w A L C l) (at' n : Nat) (hn : n ≤ L - at') (ha : at' ≤ L) (A' : Option Addr) (hA : A' = if C = at' then A else A.map (fun x => x.add at')) : RdB w A' n (C - at') ((l.drop at').take n) := by
  have hl := h.len
  have hc := h.cap
  have hm := h.max
  have hbg := h.big
  refine ⟨by rw [List.length_take, List.length_drop]; omega, by omega, by omega, by omega, ?_, ?_, ?_⟩
  · intro he
    rw [hA] at he
    by_cases e : C = at'
    · omega
    · rw [if_neg e] at he
      cases A with
      | none => have := h.none rfl; omega
      | some x => cases he
  · intro i hi
    have := h.byte (at' + i) (by omega)
    simpa [List.getD, hi] using this
  · intro x hx
    by_cases hz : n = 0
    · exact ⟨fun h0 => absurd h0 (by omega), fun i hi => absurd hi (by omega)⟩
    · rw [hA, if_neg (by omega)] at hx
      cases A with
      | none => cases hx
      | some y =>
        obtain rfl := Option.some.inj hx
        obtain ⟨h1, h2⟩ := h.cell y rfl
        refine ⟨fun _ => by rw [add_block]; exact h1 (by omega), fun i hi => ?_⟩
        rw [add_add', h2 (at' + i) (by omega)]
        simp [List.getD, hi]
theorem cut_apart {A : Option Addr} {L C R : Nat} (h : ∀ x, A = some x → 0 < L → x.block ≠ R) (at' n : Nat) (hn : n ≤ L - at') (A' : Option Addr) (hA : A' = if C = at' then A else A.map (fun x => x.add at')) : ∀ x, A' = some x → 0 < n → x.block ≠ R := by
  intro x hx h0
  rw [hA] at hx
  by_cases e : C = at'
  · rw [if_pos e] at hx; exact h x hx (by omega)
  · rw [if_neg e] at hx
    cases A with
    | none => cases hx
    | some y =>
      obtain rfl := Option.some.inj hx
      rw [add_block]; exact h y rfl (by omega)

theorem rd_empty (w : World) : RdB w none 0 0 [] := RdB.nil w

set_option maxHeartbeats 1000000 in
theorem take_any (R N : Nat) (t : TypeId) (A : Option Addr) (L C : Nat) (l : List Int) (at' : Nat) (f : Int) (E : Nat → Value) (n : Nat) (w : World) (h : Rdr w R N t A L C l at' f E) (hn : n ≤ 140737488355328) :
    Calls Try.prog 83 #[.pointer (some ⟨R, 0, none⟩), .int .i64 n] w (TakeRet R N t A L C l at' f E n w) := by
  have H := Lib.hid h
  have hle := h.le
  have hbig := h.rd.big
  have hcap := h.rd.cap
  have hmax := h.rd.max
  have hc0 := h.c0
  have hc1 := h.c1
  have HG0 := Lib.hid (World.grownBy.refl w (some R))
  have HOk := Lib.hid (fun (W : World) (g : Int) (a : Nat) (h : Rdr W R N t A L C l a g E) => ok_any R N t A L C l a g E W h)
  clear h
  by_cases h0 : f = 0
  · subst h0
    have HO1 : Hid (∀ n, Calls Try.prog 46 #[.pointer (some ⟨R, 0, none⟩)] (w.drewN n) fun e' w' => e' = .returned (.bool true) ∧ w' = w.drewN n) := Lib.hid (fun n => HOk.out _ 0 at' (H.out.drewN n))
    by_cases hcut : L - at' < n
    · have HT := Lib.hid (tk_cut (f := 0) rfl l at' L n hcut)
      have hdc : decide ((L : Int) - (at' : Int) < (n : Int)) = true := by simp; omega
      have HF := Lib.hid (fun k => fail_any R N t A L C l at' 0 14 E (w.drewN k) (H.out.drewN k))
      go_enter Try.func83, Try.ntmps83
      go_wp2_with fail
      go_quiet ((go_at_call 46; with_reducible exact Calls.quiet_of_same (HO1.out _)))
      go_wp2_with fail
      refine (HF.out _).mono ?_
      rintro e w1 ⟨rfl, hR, hg⟩
      have HR := Lib.hid hR
      have HG := Lib.hid (show w.grownBy w1 (some R) from ⟨hg.os, hg.tape, hg.output, hg.size, hg.block⟩)
      have HK : Hid (Calls Try.prog 46 #[.pointer (some ⟨R, 0, none⟩)] w1 fun e' w' => e' = .returned (.bool false) ∧ w' = w1) := Lib.hid (HOk.out w1 14 at' hR)
      clear hR hg HF HO1 HOk
      go_wp2_with fail
      refine HK.out.mono ?_
      rintro e w' ⟨rfl, rfl⟩
      go_wp2_with fail
      go_ret
      exact takeRet_of HT.out (m := 0) rfl rfl (rd_empty _) (fun K _ x hx => by cases hx) HR.out HG.out
    · have HT := Lib.hid (tk_yes (f := 0) rfl l at' L n (by omega))
      have hdc : decide ((L : Int) - (at' : Int) < (n : Int)) = false := by simp; omega
      have HK : Hid (∀ k, Calls Try.prog 46 #[.pointer (some ⟨R, 0, none⟩)] (w.drewN k) fun e' w' => e' = .returned (.bool true) ∧ w' = w.drewN k) := HO1
      obtain ⟨a2, ha2⟩ : ∃ a2, a2 = at' + n := ⟨_, rfl⟩
      have i1 : (at' : Int) + (n : Int) = (a2 : Int) := by omega
      have i2 : (a2 : Int) - (n : Int) = (at' : Int) := by omega
      have z1 : (0 : Int) ≤ (a2 : Int) := by omega
      have z2 : (a2 : Int) ≤ (L : Int) := by omega
      have z3 : (a2 : Int) ≤ (C : Int) := by omega
      have z4 : (at' : Int) ≤ (a2 : Int) := by omega
      have w1' : IntKind.i64.wrap (a2 : Int) = (a2 : Int) := IntWalk.i64_in _ (by omega)
      have w2' : IntKind.i64.wrap (at' : Int) = (at' : Int) := IntWalk.i64_in _ (by omega)
      have HF := Lib.hid (H.out.row.frozen 1)
      have HS := Lib.hid (fun k => (H.out.drewN k).setAt a2 (by omega))
      have HGs := Lib.hid (fun k => show w.grownBy ((w.drewN k).setCell ⟨R, 1, none⟩ (.int .i64 (a2 : Int))) (some R) from ⟨(grown_set (w.drewN k) R 1 _).os, (grown_set (w.drewN k) R 1 _).tape, (grown_set (w.drewN k) R 1 _).output, (grown_set (w.drewN k) R 1 _).size, (grown_set (w.drewN k) R 1 _).block⟩)
      have hfz : w.frozen? ⟨R, 1, none⟩ = false := HF.out
      have HA2 := Lib.hid ha2
      clear HF HOk ha2
      go_enter Try.func83, Try.ntmps83
      go_wp2_with fail
      go_quiet ((go_at_call 46; with_reducible exact Calls.quiet_of_same (HO1.out _)))
      go_wp2_with fail
      refine (HK.out _).mono ?_
      rintro e w' ⟨rfl, rfl⟩
      go_wp2_with fail
      have HS2 := Lib.hid (HS.out nq)
      have HG2 := Lib.hid (HGs.out nq)
      have hc0' := (HS.out nq).c0
      have hc1' := (HS.out nq).c1
      obtain ⟨A2, hA2⟩ : ∃ A2, A2 = (if C = at' then A else A.map (fun x => x.add at')) := ⟨_, rfl⟩
      have HRd := Lib.hid (rd_cut HS2.out.rd at' n (by omega) hle A2 hA2)
      have HNe := Lib.hid (fun (K : Nat) (hK : ∀ x, A = some x → 0 < L → x.block ≠ K) => cut_apart hK at' n (by omega) A2 hA2)
      have hcut2 := hA2.symm
      clear hA2 HS HGs hc0 hc1 H hfz HG0 HO1 HK
      generalize World.setCell _ _ _ = W at *
      go_quiet (fail)
      go_wp2_with fail
      go_ret
      have hm : a2 - at' = n := by have := HA2.out; omega
      have hT := HT.out
      rw [← HA2.out] at hT
      refine takeRet_of hT (m := a2 - at') ?_ rfl ?_ ?_ (HS2.out.drewN _) ⟨HG2.out.os, HG2.out.tape, HG2.out.output, HG2.out.size, HG2.out.block⟩
      · rw [hm]; exact HRd.out.len
      · rw [hm]; exact ⟨HRd.out.len, HRd.out.cap, HRd.out.max, HRd.out.big, HRd.out.none, HRd.out.byte, HRd.out.cell⟩
      · rw [hm]; exact HNe.out
  · have HT := Lib.hid (tk_no h0 l at' L n)
    have hd : (f == 0) = false := by simp [h0]
    have HO1 : Hid (∀ n, Calls Try.prog 46 #[.pointer (some ⟨R, 0, none⟩)] (w.drewN n) fun e' w' => e' = .returned (.bool false) ∧ w' = w.drewN n) := Lib.hid (fun n => by
      have h := HOk.out _ f at' (H.out.drewN n)
      rw [hd] at h
      exact h)
    clear h0 hd HOk
    go_enter Try.func83, Try.ntmps83
    go_wp2_with fail
    go_quiet ((go_at_call 46; with_reducible exact Calls.quiet_of_same (HO1.out _)))
    go_wp2_with fail
    refine (HO1.out _).mono ?_
    rintro e w' ⟨rfl, rfl⟩
    go_wp2_with fail
    go_ret
    exact takeRet_of HT.out (m := 0) rfl rfl (rd_empty _) (fun K _ x hx => by cases hx) (H.out.drewN _) ⟨HG0.out.os, HG0.out.tape, HG0.out.output, HG0.out.size, HG0.out.block⟩
end Go.Proofs.Ytmcmapgllaopmaa.Cd
end

section
/- The reader: numbers and Ids. -/
namespace Go.Proofs.Ytmcmapgllaopmaa.Cd
open Go.RowKit
set_option linter.unusedVariables false

/-- a number out of bytes -/
def nv (l : List Int) : Int := l.foldl (fun x c => x * 256 + c) 0
theorem nv_snoc (l : List Int) (c : Int) : nv (l ++ [c]) = nv l * 256 + c := by simp [nv]
theorem nv_bound : ∀ (k : Nat) (l : List Int), l.length ≤ k → (∀ i, i < l.length → 0 ≤ l.getD i 0 ∧ l.getD i 0 ≤ 255) → 0 ≤ nv l ∧ nv l < 256 ^ k := by
  intro k
  induction k with
  | zero =>
    intro l hl _
    obtain rfl : l = [] := List.eq_nil_of_length_eq_zero (by omega)
    simp [nv]
  | succ k ih =>
    intro l hl hb
    rcases List.eq_nil_or_concat l with rfl | ⟨m, c, rfl⟩
    · refine ⟨by simp [nv], ?_⟩
      show (0 : Int) < 256 ^ (k + 1)
      exact Int.pow_pos (by decide)
    · rw [List.concat_eq_append] at *
      have h1 := ih m (by simp at hl; omega) (fun i hi => by
        have := hb i (by simp; omega)
        simpa [List.getD, List.getElem?_append_left hi] using this)
      have h2 := hb m.length (by simp)
      have h3 : (m ++ [c]).getD m.length 0 = c := by simp [List.getD]
      rw [h3] at h2
      rw [nv_snoc, Int.pow_succ]
      omega
theorem bits_or_i64_nat (a b : Nat) (ha : a < 2 ^ 62) (hb : b < 2 ^ 62) : bits .or .i64 (a : Int) (b : Int) = ((a ||| b : Nat) : Int) := by
  have hx : a ||| b < 2 ^ 62 := Nat.or_lt_two_pow ha hb
  have h1 : (BitVec.ofInt 64 (a : Int)).toNat = a := by
    rw [BitVec.ofInt_natCast, BitVec.toNat_ofNat]; exact Nat.mod_eq_of_lt (by omega)
  have h2 : (BitVec.ofInt 64 (b : Int)).toNat = b := by
    rw [BitVec.ofInt_natCast, BitVec.toNat_ofNat]; exact Nat.mod_eq_of_lt (by omega)
  show IntKind.i64.wrap ((BitVec.ofInt 64 (a : Int) ||| BitVec.ofInt 64 (b : Int)).toNat : Int) = _
  rw [BitVec.toNat_or, h1, h2]
  exact IntWalk.i64_in _ (by omega)
theorem or_low (x c : Int) (h0 : 0 ≤ x) (h1 : x < 16777216) (h2 : 0 ≤ c) (h3 : c ≤ 255) : bits .or .i64 (x * 256) c = x * 256 + c := by
  obtain ⟨a, rfl⟩ : ∃ a : Nat, x = a := ⟨x.toNat, by omega⟩
  obtain ⟨b, rfl⟩ : ∃ b : Nat, c = b := ⟨c.toNat, by omega⟩
  have e : ((a : Int) * 256) = ((a * 256 : Nat) : Int) := by simp
  rw [e, bits_or_i64_nat _ _ (by omega) (by omega)]
  have h := Nat.shiftLeft_add_eq_or_of_lt (show b < 2 ^ 8 by omega) a
  rw [Nat.shiftLeft_eq] at h
  have h2 : a * 256 ||| b = a * 256 + b := h.symm
  rw [h2]
  simp

/-- a reader's answer v, and the reader behind -/
def NumRet (R N : Nat) (t : TypeId) (A : Option Addr) (L C : Nat) (l : List Int) (at' : Nat) (f : Int) (E : Nat → Value) (n : Nat) (v : Value) (w : World) (e : Ending) (w' : World) : Prop :=
  e = .returned v ∧ Rdr w' R N t A L C l (tkA f at' L n) (tkF f at' L n) E ∧ w.grownBy w' (some R)

theorem nv_small (l : List Int) (k : Nat) (hk : k < 4) (hl : l.length ≤ k) (hb : ∀ i, i < l.length → 0 ≤ l.getD i 0 ∧ l.getD i 0 ≤ 255) : 0 ≤ nv l ∧ nv l < 16777216 := by
  have h := nv_bound 3 l (by omega) hb
  exact h
theorem take_getD (l : List Int) (k i : Nat) (h : i < k) : (l.take k).getD i 0 = l.getD i 0 := by simp [List.getD, h]
theorem nv_step (l : List Int) (k : Nat) (h : k < l.length) : nv (l.take (k + 1)) = nv (l.take k) * 256 + l.getD k 0 := by
  rw [List.take_succ_eq_append_getElem h, nv_snoc]
  simp [List.getD, h]

set_option maxHeartbeats 1000000 in
theorem number_r (R N : Nat) (t : TypeId) (A : Option Addr) (L C : Nat) (l : List Int) (at' : Nat) (f : Int) (E : Nat → Value) (n : Nat) (w : World) (h : Rdr w R N t A L C l at' f E) (hn : n ≤ 4) :
    Calls Try.prog 62 #[.pointer (some ⟨R, 0, none⟩), .int .i64 n] w (NumRet R N t A L C l at' f E n (.int .i64 (nv (tkL f l at' L n))) w) := by
  have HT := Lib.hid (take_any R N t A L C l at' f E n w h (by omega))
  have hlen : (tkL f l at' L n).length ≤ 4 := by
    unfold tkL
    split
    · rw [List.length_take]; omega
    · simp
  clear h
  generalize hT : tkL f l at' L n = T at *
  go_enter Try.func62, Try.ntmps62
  go_wp2_with fail
  refine HT.out.mono ?_
  rintro e w1 ⟨A', C', rfl, hrd, hne, hR, hg⟩
  rw [hT] at hrd hne ⊢
  have HRd := Lib.hid hrd
  have HR := Lib.hid hR
  have HG := Lib.hid hg
  have hcap := hrd.cap
  have hmax := hrd.max
  clear hrd hne hR hg HT hT
  go_wp2_with fail
  go_loop [5, 12] (fun s5 s12 => ∃ k : Nat, s5 = .int .i64 (nv (T.take k)) ∧ s12 = .int .i64 k ∧ k ≤ T.length) (fun _ s12 => T.length - (intOf s12).toNat)
  case atStart => exact ⟨0, rfl, rfl, Nat.zero_le _⟩
  case round =>
    obtain ⟨k, rfl, rfl, hk⟩ := hrel
    by_cases hlt : k < T.length
    · obtain ⟨g, o, rfl, hgl, hcc⟩ := HRd.out.at (by omega)
      have hc : w1.cell? ⟨g, o + k, none⟩ = some (.int .u8 (T.getD k 0)) := hcc k hlt
      have hb := HRd.out.byte k hlt
      have hb0 := hb.1
      have hb1 := hb.2
      have hn3 := nv_small (T.take k) k (by omega) (by rw [List.length_take]; omega) (fun i hi => by
        rw [List.length_take] at hi
        rw [take_getD T k i (by omega)]
        exact HRd.out.byte i (by omega))
      have hx0 := hn3.1
      have hx1 := hn3.2
      have hor := or_low (nv (T.take k)) (T.getD k 0) hx0 hx1 hb0 hb1
      rw [← nv_step T k hlt] at hor
      have HX := Lib.hid (show nv (T.take (k + 1)) = nv (T.take (k + 1)) from rfl)
      have hk0 : (0 : Int) ≤ (k : Int) := by omega
      have hkl : (k : Int) < (T.length : Int) := by omega
      clear hcc hb hn3 HX
      generalize hY : nv (T.take (k + 1)) = Y at *
      have HY := Lib.hid hY
      clear hY
      generalize nv (T.take k) = X at *
      generalize T.getD k 0 = c at *
      go_wp2_with fail
      go_round
      case rel => exact ⟨k + 1, by rw [HY.out], by go_num, by omega⟩
      case measure => simp [intOf]; omega
    · have HX : Hid (nv (T.take k) = nv T) := Lib.hid (by rw [List.take_of_length_le (by omega)])
      have hd : decide ((k : Int) < (T.length : Int)) = false := by simp; omega
      generalize nv (T.take k) = X at *
      go_wp2_with fail
      go_ret
      exact ⟨ret_int HX.out, HR.out, HG.out⟩

set_option maxHeartbeats 1000000 in
theorem byte_r (R N : Nat) (t : TypeId) (A : Option Addr) (L C : Nat) (l : List Int) (at' : Nat) (f : Int) (E : Nat → Value) (w : World) (h : Rdr w R N t A L C l at' f E) :
    Calls Try.prog 61 #[.pointer (some ⟨R, 0, none⟩)] w (NumRet R N t A L C l at' f E 1 (.int .u8 (nv (tkL f l at' L 1))) w) := by
  have HT := Lib.hid (number_r R N t A L C l at' f E 1 w h (by omega))
  have hb : 0 ≤ nv (tkL f l at' L 1) ∧ nv (tkL f l at' L 1) ≤ 255 := by
    unfold tkL
    split
    · have h2 := nv_bound 1 ((l.drop at').take 1) (by rw [List.length_take]; omega) (fun i hi => by
        rw [List.length_take, List.length_drop] at hi
        rw [take_getD _ _ _ (by omega)]
        have := h.rd.byte (at' + i) (by have := h.rd.len; omega)
        simpa [List.getD] using this)
      have : (256 : Int) ^ 1 = 256 := by decide
      omega
    · exact ⟨by decide, by decide⟩
  obtain ⟨b0, b1⟩ := hb
  clear h
  generalize nv (tkL f l at' L 1) = X at *
  go_enter Try.func61, Try.ntmps61
  go_wp2_with fail
  refine HT.out.mono ?_
  rintro e w1 ⟨rfl, hR, hg⟩
  have HR := Lib.hid hR
  have HG := Lib.hid hg
  clear hR hg HT
  go_wp2_with fail
  go_ret
  exact ⟨rfl, HR.out, HG.out⟩
end Go.Proofs.Ytmcmapgllaopmaa.Cd
end

section
/- The reader: Ids. -/
namespace Go.Proofs.Ytmcmapgllaopmaa.Cd
open Go.RowKit
set_option linter.unusedVariables false

theorem step_copy_mid {w : World} {ops : Array Oper} {o : Oper} {a : Act} {K : Act → World → Prop} {Q : Exit → Act → World → Prop} {E : Prop} (hgd : o.guard = none) (d s : Operand)
    (ho : o.op = .call { callee := .builtin .copy, args := #[d, s], argTypes := #[23, 23] })
    (dp sp : Option Addr) (dLen dCap sLen sCap : Nat) (hd : a.eval d = .slice dp dLen dCap) (hs : a.eval s = .slice sp sLen sCap)
    (g off : Nat) (cs : List Value) (hn : cs.length = Nat.min sLen dLen)
    (hpos : 0 < cs.length → dp = some ⟨g, off, none⟩ ∧ ∃ ad, sp = some ad ∧ ∀ j v, cs[j]? = some v → w.cell? (ad.add j) = some v)
    (hc : ∀ j, j < cs.length → (w.cell? ⟨g, off + j, none⟩).isSome = true) (hf : ∀ j, j < cs.length → w.frozen? ⟨g, off + j, none⟩ = false) (h1 : ∀ v ∈ cs, v.oneCell' = true)
    (h : K (a.put o.dst (goInt cs.length)) (w.setCells g off cs)) : if Region.wanted o (yielded ops a.tmps) = true then Oper.wp Try.prog o a w K Q else E := by
  have hw : Region.wanted o (yielded ops a.tmps) = true := by simp [Region.wanted, hgd]
  rw [if_pos hw]
  exact wp_copy_mid d s ho dp sp dLen dCap sLen sCap hd hs g off cs hn hpos hc hf h1 h


/-- an Id out of bytes; noughts where there are none -/
def idv (T : List Int) : List Int := T ++ List.replicate (32 - T.length) 0
theorem idv_len (T : List Int) (h : T.length ≤ 32) : (idv T).length = 32 := by simp [idv]; omega
theorem lay_idv (T : List Int) (h : T.length ≤ 32) (j : Nat) (hj : j < 32) : layF (fun _ => .int .u8 0) 0 (bv T) j = .int .u8 ((idv T).getD j 0) := by
  rw [layF, bv_len]
  by_cases h1 : j < T.length
  · rw [if_pos (by omega), Nat.sub_zero]
    simp [bv, idv, List.getD, h1, List.getElem?_append_left]
  · rw [if_neg (by omega)]
    simp [idv, List.getD, List.getElem?_append_right (show T.length ≤ j by omega), show j - T.length < 32 - T.length by omega]
/-- what a copy of bytes that are read into a new Id asks -/
theorem copy_of {w : World} {I n C : Nat} {t : TypeId} {A : Option Addr} {T : List Int} {F : Nat → Value} (hr : w.rowIs I t 32 F) (h : RdB w A n C T) (hn : T.length ≤ 32) :
    (0 < (bv T).length → (some ⟨I, 0, none⟩ : Option Addr) = some ⟨I, 0, none⟩ ∧ ∃ ad, A = some ad ∧ ∀ j v, (bv T)[j]? = some v → w.cell? (ad.add j) = some v) ∧
    (∀ j, j < (bv T).length → (w.cell? ⟨I, 0 + j, none⟩).isSome = true) ∧ (∀ j, j < (bv T).length → w.frozen? ⟨I, 0 + j, none⟩ = false) := by
  have hl := h.len
  refine ⟨fun h0 => ⟨rfl, ?_⟩, fun j hj => ?_, fun j _ => hr.frozen _⟩
  · rw [bv_len] at h0
    cases hA : A with
    | none => have := h.none hA; have := h.cap; omega
    | some x =>
      obtain ⟨-, h2⟩ := h.cell x hA
      refine ⟨x, rfl, fun j v hj => ?_⟩
      have hjl := (List.getElem?_eq_some_iff.1 hj).1
      rw [bv_len] at hjl
      rw [h2 j (by omega), ← hj]
      simp [bv, hjl]
  · rw [bv_len] at hj
    rw [hr.cell (show 0 + j < 32 by omega)]; rfl
structure CpI (w : World) (I : Nat) (A : Option Addr) (T : List Int) : Prop where
  pos : 0 < (bv T).length → (some ⟨I, 0, none⟩ : Option Addr) = some ⟨I, 0, none⟩ ∧ ∃ ad, A = some ad ∧ ∀ j v, (bv T)[j]? = some v → w.cell? (ad.add j) = some v
  here : ∀ j, j < (bv T).length → (w.cell? ⟨I, 0 + j, none⟩).isSome = true
  free : ∀ j, j < (bv T).length → w.frozen? ⟨I, 0 + j, none⟩ = false
theorem grown_laid {a : World} {H E : Nat} (hE : a.heap.size ≤ E) : ∀ (vs : List Value) (o : Nat) (w : World), a.grownBy w (some H) → a.grownBy (w.setCells E o vs) (some H)
  | [], _, _, h => h
  | v :: vs, o, w, h => grown_laid hE vs (o + 1) _ ⟨h.os, h.tape, h.output, by simpa [World.setCell] using h.size, fun i hi hne => (Below.heap_setCell w ⟨E, o, none⟩ v i (by show i ≠ E; omega)).trans (h.block i hi hne)⟩
/-- cells are laid elsewhere than in the reader's block and in what it goes through -/
theorem Rdr.laid {R N : Nat} {t : TypeId} {A : Option Addr} {L C : Nat} {l : List Int} {at' : Nat} {f : Int} {E : Nat → Value} {X : Nat} (hX : X ≠ R) : ∀ (vs : List Value) (o : Nat) (w : World), (∀ x, A = some x → 0 < L → x.block ≠ X) → Rdr w R N t A L C l at' f E → Rdr (w.setCells X o vs) R N t A L C l at' f E
  | [], _, _, _, h => h
  | v :: vs, o, w, ha, h => Rdr.laid hX vs (o + 1) _ ha ⟨h.row.setOther (a := ⟨X, o, none⟩) (fun e => hX e.symm) v, h.hN, h.rd.grown (grown_set w X o v) ha, h.apart, h.le⟩
set_option maxRecDepth 100000 in
theorem zero32 (w : World) : (zeroValue 37).run Try.prog w = .ok (.agg (bv (List.replicate 32 0)).toArray) w := by rfl

set_option maxRecDepth 100000 in
set_option maxHeartbeats 2000000 in
theorem id_r (R N : Nat) (t : TypeId) (A : Option Addr) (L C : Nat) (l : List Int) (at' : Nat) (f : Int) (E : Nat → Value) (w : World) (h : Rdr w R N t A L C l at' f E) :
    Calls Try.prog 84 #[.pointer (some ⟨R, 0, none⟩)] w (NumRet R N t A L C l at' f E 32 (.agg (bv (idv (tkL f l at' L 32))).toArray) w) := by
  have hRl := h.row.lt
  have H := Lib.hid h
  have hlen : (tkL f l at' L 32).length ≤ 32 := by
    unfold tkL
    split
    · rw [List.length_take]; omega
    · simp
  have HAp : Hid ((∀ x, A = some x → 0 < L → x.block ≠ w.heap.size) ∧ (∀ x, A = some x → 0 < L → x.block ≠ w.heap.size + 1)) := Lib.hid ⟨fun x hx h0 => by have := (h.rd.cell x hx).1 h0; omega, fun x hx h0 => by have := (h.rd.cell x hx).1 h0; omega⟩
  clear h
  have hz1 := zero32
  generalize hZ1 : (bv (List.replicate 32 0)).toArray = Z1 at *
  have HZ1 := Lib.hid hZ1
  clear hZ1
  go_enter Try.func84, Try.ntmps84
  go_upto_region 1 with (fail)
  have HO1 : Hid ((w.alloc (.cells Z1 37)).rowIs w.heap.size 37 32 (fun _ => .int .u8 0)) := Lib.hid (by rw [← HZ1.out]; exact row_zeros w 32 _)
  have hs1 := al_lt w (.cells Z1 37)
  have HB1 := Lib.hid ((Below.refl w.heap.size w).alloc (Nat.le_refl _) (.cells Z1 37))
  generalize hw1 : w.alloc (.cells Z1 37) = w1 at *
  have hIs : w1.heap.size = w.heap.size + 1 := by rw [← hw1]; show (w.heap.push _).size = _; simp
  clear hw1
  rw [← hIs] at HAp
  clear hIs
  generalize hO : w.heap.size = O at *
  have HOw := Lib.hid hO
  clear hO
  go_upto_region 2 with (fail)
  have HO2 := Lib.hid (World.rowIs.alloc HO1.out (.cells Z1 37))
  have HB2 := Lib.hid (HB1.out.alloc (Nat.le_of_lt hs1) (.cells Z1 37))
  have HI2 : Hid ((w1.alloc (.cells Z1 37)).rowIs w1.heap.size 37 32 (fun _ => .int .u8 0)) := Lib.hid (by rw [← HZ1.out]; exact row_zeros w1 32 _)
  have hs2 := al_lt w1 (.cells Z1 37)
  clear HO1 HB1
  generalize w1.alloc (.cells Z1 37) = w2 at *
  generalize w1.heap.size = I at *
  have HR2 : Hid (Rdr w2 R N t A L C l at' f E) := Lib.hid (H.out.below (by rw [HOw.out]; exact HB2.out))
  have HT := Lib.hid (take_any R N t A L C l at' f E 32 w2.drew (HR2.out.drewN 1) (by omega))
  have HO3 := Lib.hid (World.rowIs.drew HO2.out)
  have HI3 := Lib.hid (World.rowIs.drew HI2.out)
  have HB3 : Hid (Below O w w2.drew) := Lib.hid HB2.out.drew
  generalize hTT : tkL f l at' L 32 = T at *
  clear HO2 HI2 HB2 HR2 H
  go_region_held3 (fun _ => True) (trivial) (first
    | (go_at_call 83
       refine HT.out.mono ?_
       rintro e w3 ⟨A', C', rfl, hrd, hne, hR, hg⟩
       rw [hTT] at hrd hne ⊢
       have HRd := Lib.hid hrd
       have HR := Lib.hid hR
       have HG := Lib.hid hg
       have HO4 := Lib.hid (World.rowIs.of_block HO3.out (hg.block O HO3.out.lt (fun e => by have := Option.some.inj e; omega)))
       have HI4 := Lib.hid (World.rowIs.of_block HI3.out (hg.block I HI3.out.lt (fun e => by have := Option.some.inj e; omega)))
       have HMn : Hid ((bv T).length = Nat.min T.length 32) := Lib.hid (by rw [bv_len]; exact (Nat.min_eq_left hlen).symm)
       have HCp : Hid (CpI w3 I A' T) := Lib.hid ⟨(copy_of HI4.out HRd.out hlen).1, (copy_of HI4.out HRd.out hlen).2.1, (copy_of HI4.out HRd.out hlen).2.2⟩
       clear hrd hne hR hg)
    | (refine step_copy_mid rfl (.tmp 4) (.tmp 6) rfl (some ⟨I, 0, none⟩) A' 32 32 T.length C' rfl rfl I 0 (bv T) HMn.out HCp.out.pos HCp.out.here HCp.out.free (bv_one T) ?_))
  have hdl := idv_len T hlen
  have hbl : (bv (idv T)).length = 32 := by rw [bv_len, hdl]
  have HRg : Hid ((w3.setCells I 0 (bv T)).rangeAt I 0 (bv (idv T))) := Lib.hid (fun j v hj => by
    have hl := (List.getElem?_eq_some_iff.1 hj).1
    rw [hbl] at hl
    rw [Nat.zero_add, (row_lay HI4.out 0 (bv T)).cell hl, lay_idv T hlen j hl, ← hj]
    simp [bv, hdl, hl])
  have HSz : Hid ((Try.prog.info? 37).map (·.size) = some (bv (idv T)).length) := Lib.hid (by rw [hbl]; kernel_rfl)
  have HSz2 : Hid ((Try.prog.info? 37).map (·.size) = some (bv (idv T)).toArray.size) := Lib.hid (by rw [List.size_toArray]; exact HSz.out)
  have HOne := Lib.hid (all_oneCell_toArray (bv_one (idv T)))
  have HO5 : Hid ((w3.setCells I 0 (bv T)).rowIs O 37 32 (fun _ => .int .u8 0)) := Lib.hid (row_apart (by omega) (bv T) 0 w3 HO4.out)
  have HTh : Hid ((w3.setCells I 0 (bv T)).there O 0 (bv (idv T)).toArray.size) := Lib.hid (fun j hj => by
    rw [List.size_toArray, hbl] at hj
    rw [Nat.zero_add]
    exact ⟨by rw [HO5.out.cell hj]; rfl, HO5.out.frozen _⟩)
  have HSt := Lib.hid (row_stored HO5.out (bv (idv T)) hbl)
  have hg3 := HG.out
  have HGx : Hid (w.grownBy ((w3.setCells I 0 (bv T)).setCells O 0 (bv (idv T))) (some R)) := Lib.hid (by
    have hb3 : Below O w w2.drew := HB3.out
    have hz : O ≤ w2.drew.heap.size := by have := HO3.out.lt; omega
    have h0 : w.grownBy w2.drew (some R) := ⟨hb3.os, hb3.tape, hb3.output, by rw [HOw.out]; exact hz, fun i hi _ => hb3.block i (by rw [← HOw.out]; exact hi)⟩
    have h1 := grown_trans h0 hg3
    exact grown_laid (by have := HOw.out; omega) (bv (idv T)) 0 _ (grown_laid (by have := HOw.out; omega) (bv T) 0 w3 h1))
  have HRx : Hid (Rdr ((w3.setCells I 0 (bv T)).setCells O 0 (bv (idv T))) R N t A L C l (tkA f at' L 32) (tkF f at' L 32) E) := Lib.hid (Rdr.laid (by omega) (bv (idv T)) 0 _ HAp.out.1 (Rdr.laid (by omega) (bv T) 0 w3 HAp.out.2 HR.out))
  clear hg3 hbl hdl HMn HCp HI4 HO4 HO5 HR HG HB3 HRd HO3 HI3
  generalize bv T = TL at *
  generalize bv (idv T) = DL at *
  go_wp2_with (first
    | (refine wpList_load_mid rfl _ _ rfl I 0 rfl DL _ HRg.out Try.underlying37 rfl HSz.out ?_)
    | (refine wpList_store_mid rfl _ _ _ rfl O 0 DL.toArray rfl rfl HTh.out HSz2.out HOne.out ?_))
  refine bodyPost_ret (results_cell_row rfl _ _ O _ _ _ _ rfl HSt.out Try.underlying37 rfl HSz2.out) rfl ?_
  exact ⟨rfl, HRx.out, HGx.out⟩
end Go.Proofs.Ytmcmapgllaopmaa.Cd
end

section
/- checkEntry at any entry. -/
namespace Go.Proofs.Ytmcmapgllaopmaa.Cd
open Go.RowKit
set_option linter.unusedVariables false

/-- is a text at or ahead of another one? -/
def leS (a b : ByteArray) : Bool := Op.bytesLess a.toList b.toList || a.toList == b.toList
/-- why an entry may not stand behind one ahead -/
def ce (k : Int) (nm : ByteArray) (ids : List Int) (prev : Option ByteArray) : Int :=
  if k < 1 ∨ 4 < k then 3 else if ¬ NmOk nm then 7 else if ids = List.replicate 32 0 then 1 else match prev with
    | some q => if leS nm q = true then 18 else 0
    | none => 0

/-- what lies ahead: its last name -/
structure Ahd (w : World) (A : Option Addr) (n C : Nat) (prev : Option ByteArray) : Prop where
  cap : n ≤ C
  max : C ≤ 9223372036854775807
  big : n ≤ 1000000
  none : n = 0 → prev = none
  last : 0 < n → ∃ g o q, A = some ⟨g, o, Option.none⟩ ∧ prev = some q ∧ w.cell? ⟨g, o + (n - 1) * 34, Option.none⟩ = some (.string q) ∧ g < w.heap.size

set_option maxRecDepth 100000 in
set_option maxHeartbeats 2000000 in
theorem check_any (s : ByteArray) (k : Int) (ids : List Int) (hids : ids.length = 32) (hs : s.size ≤ 140737488355327) (A : Option Addr) (n C : Nat) (prev : Option ByteArray) (w : World) (h : Ahd w A n C prev) :
    Calls Try.prog 40 #[.agg (ent s k ids).toArray, .slice A n C] w fun e w' => e = .returned (.int .i64 (ce k s ids prev)) ∧ Below w.heap.size w w' := by
  have hcl := ent_cells s k ids
  have h0 := al_cell w (ent s k ids).toArray 87 0 (.string s) rfl
  have h1 := al_cell w (ent s k ids).toArray 87 1 (.int .i64 k) rfl
  have HR := Lib.hid (ent_range2 s k ids w 87)
  have HL := Lib.hid (show (Try.prog.info? 37).map (·.size) = some (bv ids).length by rw [bv, List.length_map, hids]; kernel_rfl)
  have HN := Lib.hid (fun W => name_any s W (Nat.le_trans hs (by decide)))
  generalize hE : ent s k ids = E at *
  have HE := Lib.hid hE
  clear hE
  have HA := Lib.hid ((Below.refl w.heap.size w).alloc (Nat.le_refl _) (.cells E.toArray 87))
  by_cases hk : k < 1 ∨ 4 < k
  · have e1 : ce k s ids prev = 3 := by unfold ce; rw [if_pos hk]
    rw [e1]
    clear e1
    rcases hk with hk | hk
    · go_enter Try.func40, Try.ntmps40
      go_wp2_with fail
      go_ret
      exact ⟨rfl, HA.out⟩
    · have hk2 : ¬ k < 1 := by omega
      go_enter Try.func40, Try.ntmps40
      go_wp2_with fail
      go_ret
      exact ⟨rfl, HA.out⟩
  · have hk1 : 1 ≤ k := by omega
    have hk4 : k ≤ 4 := by omega
    by_cases hnm : NmOk s
    · have hn1 : decide (NmOk s) = true := decide_eq_true hnm
      rw [hn1] at HN
      have hq : ∀ W, (Op.equalIn 10000 37 (.agg (bv ids).toArray) (.agg #[.int .u8 0, .int .u8 0, .int .u8 0, .int .u8 0, .int .u8 0, .int .u8 0, .int .u8 0, .int .u8 0, .int .u8 0, .int .u8 0, .int .u8 0, .int .u8 0, .int .u8 0, .int .u8 0, .int .u8 0, .int .u8 0, .int .u8 0, .int .u8 0, .int .u8 0, .int .u8 0, .int .u8 0, .int .u8 0, .int .u8 0, .int .u8 0, .int .u8 0, .int .u8 0, .int .u8 0, .int .u8 0, .int .u8 0, .int .u8 0, .int .u8 0, .int .u8 0])).run Try.prog W = .ok (decide (ids = List.replicate 32 0)) W := fun W => ids_none ids hids W
      by_cases hz : ids = List.replicate 32 0
      · have e1 : ce k s ids prev = 1 := by unfold ce; rw [if_neg hk, if_neg (fun h => h hnm), if_pos hz]
        rw [e1]
        have hz2 : decide (ids = List.replicate 32 0) = true := decide_eq_true hz
        rw [hz2] at hq
        clear e1 hk hz hz2 hn1
        generalize bv ids = DI at *
        go_enter Try.func40, Try.ntmps40
        go_wp2_with fail
        refine (HN.out _).mono ?_
        rintro e w1 ⟨rfl, rfl⟩
        go_wp2_with (refine wpList_load_mid rfl _ _ rfl w.heap.size 2 rfl DI _ HR.out Try.underlying37 rfl HL.out ?_)
        go_ret
        exact ⟨rfl, HA.out⟩
      · have hz2 : decide (ids = List.replicate 32 0) = false := decide_eq_false hz
        rw [hz2] at hq
        by_cases hn0 : n = 0
        · have e1 : ce k s ids prev = 0 := by unfold ce; rw [if_neg hk, if_neg (fun h => h hnm), if_neg hz, h.none hn0]
          rw [e1]
          subst hn0
          clear e1 hk hz hz2 hn1
          generalize bv ids = DI at *
          go_enter Try.func40, Try.ntmps40
          go_wp2_with fail
          refine (HN.out _).mono ?_
          rintro e w1 ⟨rfl, rfl⟩
          go_wp2_with (refine wpList_load_mid rfl _ _ rfl w.heap.size 2 rfl DI _ HR.out Try.underlying37 rfl HL.out ?_)
          go_quiet (fail)
          go_wp2
          go_ret
          exact ⟨rfl, below_drewN HA.out _⟩
        · obtain ⟨g, o, q, rfl, hp, hc, hg⟩ := h.last (by omega)
          obtain ⟨p, hpn⟩ : ∃ p, p + 1 = n := ⟨n - 1, by omega⟩
          have hcap := h.cap
          have hmax := h.max
          have hbig := h.big
          have e1 : ce k s ids prev = if leS s q = true then 18 else 0 := by unfold ce; rw [if_neg hk, if_neg (fun h => h hnm), if_neg hz, hp]
          rw [e1]
          have hc2 : (w.alloc (.cells E.toArray 87)).cell? ⟨g, o + p * 34, none⟩ = some (.string q) := by
            have h5 := al_keep hc (.cells E.toArray 87)
            rw [show n - 1 = p by omega] at h5
            exact h5
          have i1 : (n : Int) - 1 = (p : Int) := by omega
          have wp : IntKind.i64.wrap (p : Int) = (p : Int) := IntWalk.i64_in _ (by omega)
          have p0 : (0 : Int) ≤ (p : Int) := by omega
          have p1 : (p : Int) < (n : Int) := by omega
          have hnp : 0 < n := by omega
          have hd : decide (0 < n) = true := decide_eq_true hnp
          have hle : (Op.bytesLess s.toList q.toList || s.toList == q.toList) = leS s q := rfl
          clear e1 hk hz hz2 hn1 hpn hp hc hn0 h
          generalize bv ids = DI at *
          cases hB : leS s q
          · rw [hB] at hle
            clear hB
            go_enter Try.func40, Try.ntmps40
            go_wp2_with fail
            refine (HN.out _).mono ?_
            rintro e w1 ⟨rfl, rfl⟩
            go_wp2_with (refine wpList_load_mid rfl _ _ rfl w.heap.size 2 rfl DI _ HR.out Try.underlying37 rfl HL.out ?_)
            go_quiet (fail)
            go_wp2
            go_ret
            exact ⟨rfl, below_drewN HA.out _⟩
          · rw [hB] at hle
            clear hB
            go_enter Try.func40, Try.ntmps40
            go_wp2_with fail
            refine (HN.out _).mono ?_
            rintro e w1 ⟨rfl, rfl⟩
            go_wp2_with (refine wpList_load_mid rfl _ _ rfl w.heap.size 2 rfl DI _ HR.out Try.underlying37 rfl HL.out ?_)
            go_quiet (fail)
            go_wp2
            go_ret
            exact ⟨rfl, below_drewN HA.out _⟩
    · have e1 : ce k s ids prev = 7 := by unfold ce; rw [if_neg hk, if_pos hnm]
      have hn1 : decide (NmOk s) = false := decide_eq_false hnm
      rw [hn1] at HN
      rw [e1]
      clear e1 hk
      go_enter Try.func40, Try.ntmps40
      go_wp2_with fail
      refine (HN.out _).mono ?_
      rintro e w1 ⟨rfl, rfl⟩
      go_wp2_with fail
      go_ret
      exact ⟨rfl, HA.out⟩
end Go.Proofs.Ytmcmapgllaopmaa.Cd
end

section
/- What a walk is told of a slice of tree entries (a text, a number, 32 bytes each) that came in. -/
namespace Go.Proofs.Ytmcmapgllaopmaa.Fr
open Go.ChangeShapes Go.WideShapes Go.ChangeAt Go.RowKit
set_option linter.unusedVariables false

/-- an entry -/
structure Ent where
  name : ByteArray
  kind : Int
  id : List Int
def Ent.cells (x : Ent) : List Value := .string x.name :: .int .i64 x.kind :: x.id.map (Value.int .u8)
def Ent.wf (x : Ent) : Prop := x.name.size ≤ 140737488351232 ∧ (Lit.int .i64 x.kind).wf = true ∧ IsId x.id
instance : Inhabited Ent := ⟨⟨ByteArray.empty, 0, List.replicate 32 0⟩⟩

/-- nil; or 'len' entries in cells that lie side by side. -/
def IsEnts (w : World) (a : Option Addr) (len cap : Nat) (es : List Ent) : Prop :=
  (a = none ∧ len = 0 ∧ cap = 0 ∧ es = []) ∨
  ∃ x : Addr, a = some x ∧ len ≤ cap ∧ cap * 56 ≤ 140737488351232 ∧ es.length = len ∧ (∀ i, i < len → ∀ j v, (es.getD i default).cells[j]? = some v → w.cell? ((x.add (i * 34)).add j) = some v) ∧ (∀ e ∈ es, e.wf)

theorem weightsAll_mem {H : Type} {P : Program} {e : TypeId} : ∀ {l : List (DataW H)} {d : DataW H}, d ∈ l → ∀ n ∈ d.weights P e, n ∈ DataW.weightsAll P e l
  | d' :: r, d, hd, n, hn => by
    simp only [DataW.weightsAll, List.mem_append]
    rcases List.mem_cons.1 hd with rfl | h
    · exact Or.inl hn
    · exact Or.inr (weightsAll_mem h n hn)

theorem isEnts_of {H : Type} {enc : TypeId × Value → H} {P : Program} {W : World} {t e ti te : TypeId} {f0 f1 f2 : Field} {a : Option Addr} {len cap : Nat} {d : DataW H} {p : List MemPlace}
    (hu : P.underlying t = some (.slice e)) (he : P.underlying e = some (.struct #[f0, f1, f2])) (ce : P.cellsOf e = 34) (be : P.bytesOf e = 56)
    (o0 : f0.offset = 0) (o1 : f1.offset = 1) (o2 : f2.offset = 2) (c0 : P.cellsOf f0.type = 1) (c1 : P.cellsOf f1.type = 1) (c2 : P.cellsOf f2.type = 32)
    (u0 : P.underlying f0.type = some .string) (u1 : P.underlying f1.type = some (.int .i64)) (u2 : P.underlying f2.type = some (.array 32 te)) (ue : P.underlying te = some (.int .u8)) (cte : P.cellsOf te = 1)
    {ts : List TypeId} {ds : List (DataW H)} (hsz : (DataW.weightsEach P ts ds).all (· ≤ reachBytes) = true) {j : Nat} (ht : ts[j]? = some t) (hd : ds[j]? = some d)
    (h : DataW.Trod enc P W 0 (fun _ => true) true t (.slice a len cap) d p) :
    ∃ es, IsEnts W a len cap es := by
  obtain ⟨fuel, hf⟩ := h
  rcases Go.Deep.open_slice hu hf with ⟨hcs, _⟩ | ⟨x, l, c, m, n, D, Pl, hcs, _, hl, hm, hmm, hx, hcell⟩
  · simp [Value.cells] at hcs
    obtain ⟨rfl, rfl, rfl⟩ := hcs
    exact ⟨[], .inl ⟨rfl, rfl, rfl, rfl⟩⟩
  · simp [Value.cells] at hcs
    obtain ⟨rfl, rfl, rfl⟩ := hcs
    simp only [if_true] at hmm
    subst hmm
    simp only [Prod.mk.injEq] at hx
    have hd' := hx.1 ▸ hd
    have h1 := sized_slice hsz ht hd' hu
    rw [be] at h1
    simp only [List.length_map, List.length_range, reachBytes] at h1
    have each : ∀ i, i < len → ∃ y : Ent, (∀ j v, y.cells[j]? = some v → W.cell? ((x.add (i * 34)).add j) = some v) ∧ y.wf := by
      intro i hi
      obtain ⟨cs', g1, g2⟩ := hcell i (by omega)
      rw [ce] at g1
      obtain ⟨_, hlen, hcl⟩ := World.cells?_some g1
      obtain ⟨xs, k, hk, hxy, _, hxl, hfs⟩ := DataW.trod_struct he g2
      have e0 := hfs 0 f0 rfl
      have e1 := hfs 1 f1 rfl
      have e2 := hfs 2 f2 rfl
      rw [o0, c0, List.getElem?_eq_getElem (by rw [hxl]; simp)] at e0
      rw [o1, c1, List.getElem?_eq_getElem (by rw [hxl]; simp)] at e1
      rw [o2, c2, List.getElem?_eq_getElem (by rw [hxl]; simp)] at e2
      obtain ⟨s, hs, hsd, _⟩ := DataW.trod_string u0 e0
      obtain ⟨z, hz, _, wz⟩ := DataW.trod_int u1 e1
      obtain ⟨ys, k2, -, -, -, ylen, yel⟩ := DataW.trod_array u2 e2
      have h32 : ((cs'.drop 2).take 32).length = 32 := by rw [List.length_take, List.length_drop]; omega
      have key : ∀ c ∈ (cs'.drop 2).take 32, ∃ n : Int, c = .int .u8 n ∧ 0 ≤ n ∧ n ≤ 255 := by
        intro c hc
        obtain ⟨q, hq, rfl⟩ := List.getElem_of_mem hc
        have h3 := yel q (by omega)
        rw [cte, List.getElem?_eq_getElem (by omega), Nat.mul_one, List.drop_eq_getElem_cons hq] at h3
        obtain ⟨n', hn', _, wn⟩ := DataW.trod_int ue h3
        have b1 : IntKind.u8.min = 0 := rfl
        have b2 : IntKind.u8.max = 255 := rfl
        simp only [Lit.wf, Bool.and_eq_true, decide_eq_true_eq] at wn
        exact ⟨n', by simpa using hn', by omega, by omega⟩
      have hid : ∃ ids : List Int, (cs'.drop 2).take 32 = ids.map (Value.int .u8) ∧ IsId ids := by
        refine ⟨((cs'.drop 2).take 32).map fun c => match c with | .int _ n => n | _ => 0, ?_, by simpa using h32, ?_⟩
        · rw [List.map_map]
          conv => lhs; rw [← List.map_id ((cs'.drop 2).take 32)]
          refine List.map_congr_left fun c hc => ?_
          obtain ⟨n', rfl, -⟩ := key c hc
          rfl
        · intro y hy
          obtain ⟨c, hc, rfl⟩ := List.mem_map.1 hy
          obtain ⟨n', rfl, b1, b2⟩ := key c hc
          exact ⟨b1, b2⟩
      obtain ⟨ids, hids, wids⟩ := hid
      have hc' : cs' = .string s :: .int .i64 z :: ids.map (Value.int .u8) := by
        match cs', hlen with
        | v0 :: v1 :: r, hr =>
          have hr' : r.length = 32 := by simpa using hr
          simp at hs hz hids
          rw [hs, hz, ← hids, List.take_of_length_le (by omega)]
      have hss : s.size ≤ 140737488351232 := by
        have hmem : (DataW.agg (xs.map (·.1)) : DataW H) ∈ (List.range len).map D := by
          refine List.mem_map.2 ⟨i, List.mem_range.2 hi, ?_⟩
          simp only [Prod.mk.injEq] at hxy
          exact hxy.1
        have hw := of_decide_eq_true (List.all_eq_true.1 hsz s.size (DataW.weights_mem_each ht hd' _ (by
          simp only [DataW.weights, hu, List.mem_cons, List.mem_append]
          refine Or.inr (Or.inl (weightsAll_mem hmem _ ?_))
          simp only [DataW.weights, he]
          match xs, hxl with
          | [y0, y1, y2], _ =>
            simp only [List.getElem_cons_zero] at hsd
            simp [DataW.weightsEach, hsd, DataW.weights])))
        simpa [reachBytes] using hw
      refine ⟨⟨s, z, ids⟩, fun j v hj => ?_, hss, wz, wids⟩
      have hj2 : cs'[j]? = some v := by rw [hc']; exact hj
      have hjl := (List.getElem?_eq_some_iff.1 hj2).1
      rw [hcl j (by omega), hj2]
    have hes : ∃ es : List Ent, es.length = len ∧ ∀ i, i < len → (∀ j v, (es.getD i default).cells[j]? = some v → W.cell? ((x.add (i * 34)).add j) = some v) ∧ (es.getD i default).wf := by
      have g : ∀ k, k ≤ len → ∃ es : List Ent, es.length = k ∧ ∀ i, i < k → (∀ j v, (es.getD i default).cells[j]? = some v → W.cell? ((x.add (i * 34)).add j) = some v) ∧ (es.getD i default).wf := by
        intro k
        induction k with
        | zero => intro _; exact ⟨[], rfl, fun i hi => absurd hi (by omega)⟩
        | succ k ih =>
          intro hk
          obtain ⟨es, hl2, hall⟩ := ih (by omega)
          obtain ⟨y, hy, wy⟩ := each k (by omega)
          refine ⟨es ++ [y], by simp [hl2], fun i hi => ?_⟩
          by_cases e : i < k
          · have : (es ++ [y]).getD i default = es.getD i default := by simp [List.getD, List.getElem?_append_left (show i < es.length by omega)]
            rw [this]; exact hall i e
          · have e2 : i = k := by omega
            subst e2
            have : (es ++ [y]).getD i default = y := by simp [List.getD, hl2]
            rw [this]; exact ⟨hy, wy⟩
      exact g len (Nat.le_refl _)
    obtain ⟨es, hl2, hall⟩ := hes
    refine ⟨es, .inr ⟨x, rfl, hl, ?_, hl2, fun i hi => (hall i hi).1, fun e he' => ?_⟩⟩
    · omega
    · obtain ⟨i, hi, rfl⟩ := List.getElem_of_mem he'
      have := (hall i (by omega)).2
      simpa [List.getD, hi] using this
end Go.Proofs.Ytmcmapgllaopmaa.Fr
end

section
/- The tree's reader: what stands in its block, and the entries read. -/
namespace Go.Proofs.Ytmcmapgllaopmaa.Cd
open Go.RowKit
set_option linter.unusedVariables false

def entsV (es : List Fr.Ent) : List Value := es.flatMap Fr.Ent.cells
theorem ent_len (x : Fr.Ent) (h : x.id.length = 32) : x.cells.length = 34 := by simp [Fr.Ent.cells, h]

/-- a tree's reader: the bytes, the entries that it has -/
structure Tr (w : World) (R : Nat) (A : Option Addr) (L C : Nat) (l : List Int) (at' : Nat) (f : Int) (B : Nat) (Ae : Option Addr) (ne Ce : Nat) (es : List Fr.Ent) : Prop where
  rdr : Rdr w R 4 96 A L C l at' f (fun _ => .slice Ae ne Ce)
  own : w.ownsRow B 87 34 (.slice Ae ne Ce) ne (entsV es)
  hB : R < B
  hBs : B ≤ w.heap.size
  ids : ∀ x ∈ es, x.id.length = 32
  hAB : ∀ x, A = some x → 0 < L → x.block < B
  hne : es.length = ne

/-- what one entry's bytes say -/
structure Rd1 where
  pos : Nat
  f : Int
  k : Int
  nm : ByteArray
  id : List Int
def rdM (l : List Int) (at' L : Nat) : Nat := (nv (tkL (tkF 0 at' L 1) l (tkA 0 at' L 1) L 1)).toNat
def rd1 (l : List Int) (at' L : Nat) : Rd1 :=
  ⟨tkA (tkF (tkF (tkF 0 at' L 1) (tkA 0 at' L 1) L 1) (tkA (tkF 0 at' L 1) (tkA 0 at' L 1) L 1) L (rdM l at' L)) (tkA (tkF (tkF 0 at' L 1) (tkA 0 at' L 1) L 1) (tkA (tkF 0 at' L 1) (tkA 0 at' L 1) L 1) L (rdM l at' L)) L 32,
   tkF (tkF (tkF (tkF 0 at' L 1) (tkA 0 at' L 1) L 1) (tkA (tkF 0 at' L 1) (tkA 0 at' L 1) L 1) L (rdM l at' L)) (tkA (tkF (tkF 0 at' L 1) (tkA 0 at' L 1) L 1) (tkA (tkF 0 at' L 1) (tkA 0 at' L 1) L 1) L (rdM l at' L)) L 32,
   nv (tkL 0 l at' L 1),
   sb (tkL (tkF (tkF 0 at' L 1) (tkA 0 at' L 1) L 1) l (tkA (tkF 0 at' L 1) (tkA 0 at' L 1) L 1) L (rdM l at' L)),
   idv (tkL (tkF (tkF (tkF 0 at' L 1) (tkA 0 at' L 1) L 1) (tkA (tkF 0 at' L 1) (tkA 0 at' L 1) L 1) L (rdM l at' L)) l (tkA (tkF (tkF 0 at' L 1) (tkA 0 at' L 1) L 1) (tkA (tkF 0 at' L 1) (tkA 0 at' L 1) L 1) L (rdM l at' L)) L 32)⟩
/-- what failed behind one more entry -/
def rdF (l : List Int) (at' L cnt : Nat) (prev : Option ByteArray) : Int :=
  fl (if cnt = 512 then fl (rd1 l at' L).f 4 else (rd1 l at' L).f) (ce (rd1 l at' L).k (rd1 l at' L).nm (rd1 l at' L).id prev)
/-- the last name -/
def lastN (es : List Fr.Ent) : Option ByteArray := es.getLast?.map Fr.Ent.name

set_option maxRecDepth 100000 in
theorem zeroE (w : World) : (zeroValue 87).run Try.prog w = .ok (.agg (ent ByteArray.empty 0 (List.replicate 32 0)).toArray) w := by rfl

theorem tkL_one (f : Int) (l : List Int) (at' L : Nat) (hl : l.length = L) (hb : ∀ i, i < L → 0 ≤ l.getD i 0 ∧ l.getD i 0 ≤ 255) : 0 ≤ nv (tkL f l at' L 1) ∧ nv (tkL f l at' L 1) ≤ 255 := by
  unfold tkL
  split
  · have h2 := nv_bound 1 ((l.drop at').take 1) (by rw [List.length_take]; omega) (fun i hi => by
      rw [List.length_take, List.length_drop] at hi
      rw [take_getD _ _ _ (by omega)]
      have := hb (at' + i) (by omega)
      simpa [List.getD] using this)
    have : (256 : Int) ^ 1 = 256 := by decide
    omega
  · exact ⟨by decide, by decide⟩

/-- the entry's own block while it is read -/
structure Xr (w W : World) (R X : Nat) (F : Nat → Value) : Prop where
  row : W.rowIs X 87 34 F
  hRX : R < X
  hX : w.heap.size ≤ X
  gr : w.grownBy W (some R)
theorem Xr.grown {w W W' : World} {R X : Nat} {F : Nat → Value} (h : Xr w W R X F) (hg : W.grownBy W' (some R)) : Xr w W' R X F :=
  ⟨h.row.of_block (hg.block X h.row.lt (fun e => by have := Option.some.inj e; have := h.hRX; omega)), h.hRX, h.hX, grown_trans h.gr hg⟩
theorem Xr.set {w W : World} {R X : Nat} {F : Nat → Value} (h : Xr w W R X F) (i : Nat) (v : Value) : Xr w (W.setCell ⟨X, i, none⟩ v) R X (fun j => if j = i then v else F j) :=
  ⟨h.row.set i v, h.hRX, h.hX, ⟨h.gr.os, h.gr.tape, h.gr.output, by simpa [World.setCell] using h.gr.size, fun k hk hne => (Below.heap_setCell W ⟨X, i, none⟩ v k (by have := h.hX; show k ≠ X; omega)).trans (h.gr.block k hk hne)⟩⟩
theorem Xr.drewN {w W : World} {R X : Nat} {F : Nat → Value} (h : Xr w W R X F) (n : Nat) : Xr w (W.drewN n) R X F :=
  ⟨h.row, h.hRX, h.hX, ⟨h.gr.os, h.gr.tape, h.gr.output, h.gr.size, h.gr.block⟩⟩
/-- the tree's reader stays where elsewhere is written -/
theorem Rdr.setX {w : World} {R N : Nat} {t : TypeId} {A : Option Addr} {L C : Nat} {l : List Int} {at' : Nat} {f : Int} {E : Nat → Value} (h : Rdr w R N t A L C l at' f E) (X i : Nat) (v : Value) (hX : X ≠ R) (ha : ∀ x, A = some x → 0 < L → x.block ≠ X) : Rdr (w.setCell ⟨X, i, none⟩ v) R N t A L C l at' f E :=
  ⟨h.row.setOther (a := ⟨X, i, none⟩) (fun e => hX e.symm) v, h.hN, h.rd.grown (grown_set w X i v) ha, h.apart, h.le⟩
theorem own_grown {w w' : World} {B e sz n : Nat} {v : Value} {xs : List Value} {k : Nat} (h : w.ownsRow B e sz v n xs) (hg : w.grownBy w' (some k)) (hk : v.ownBlock ≠ some k) : w'.ownsRow B e sz v n xs := by
  refine h.kept hg ?_
  cases hv : v.ownBlock with
  | none => exact .inl rfl
  | some j => exact .inr fun e => hk (by rw [hv]; exact e)
theorem grown_cells_of {a : World} {X : Nat} : ∀ (vs : List Value) (o : Nat) (w : World), a.grownBy w (some X) → a.grownBy (w.setCells X o vs) (some X)
  | [], _, _, h => h
  | v :: vs, o, w, h => grown_cells_of vs (o + 1) _ (grown_trans h (grown_set w X o v))
theorem grown_cells (w : World) (X : Nat) (vs : List Value) (o : Nat) : w.grownBy (w.setCells X o vs) (some X) := grown_cells_of vs o w (World.grownBy.refl w (some X))
theorem info87 : (Try.prog.info? 87).map (fun i => (i.zero, i.size, i.bytes)) = some (some (.agg (ent ByteArray.empty 0 (List.replicate 32 0)).toArray), 34, 56) := by kernel_rfl
theorem ent_one (x : Fr.Ent) : ∀ u ∈ x.cells, u.oneCell' = true := by
  intro u hu
  rcases List.mem_cons.1 hu with rfl | hu
  · rfl
  · rcases List.mem_cons.1 hu with rfl | hu
    · rfl
    · obtain ⟨z, -, rfl⟩ := List.mem_map.1 hu
      rfl
/-- one entry more behind a row of one's own -/
theorem step_append_ent (w : World) {ops : Array Oper} {o : Oper} {a : Act} {K : Act → World → Prop} {Q : Exit → Act → World → Prop} {E : Prop} (hgd : o.guard = none) (s x : Operand)
    (ho : o.op = .call { callee := .builtin .append, args := #[s, x], argTypes := #[22, 22] })
    (B : Nat) (v : Value) (n : Nat) (d : List Fr.Ent) (hs : a.eval s = v) (hown : w.ownsRow B 87 34 v n (entsV d))
    (g : Nat) (y : Fr.Ent) (hx : a.eval x = .slice (some ⟨g, 0, none⟩) 1 1) (hy : ∀ j u, y.cells[j]? = some u → w.cell? ((⟨g, 0, none⟩ : Addr).add j) = some u) (hyl : y.cells.length = 34)
    (hn : n ≤ 1000000) (hbase : B ≤ w.heap.size)
    (h : ∀ A' C' w', w'.ownsRow B 87 34 (.slice A' (n + 1) C') (n + 1) (entsV (d ++ [y])) → w.grownBy w' v.ownBlock → K (a.put o.dst (.slice A' (n + 1) C')) w') :
    if Region.wanted o (yielded ops a.tmps) = true then Oper.wp Try.prog o a w K Q else E := by
  have hw : Region.wanted o (yielded ops a.tmps) = true := by simp [Region.wanted, hgd]
  rw [if_pos hw]
  obtain ⟨i0, hi, hz0, hz1, hz2⟩ := info_parts info87
  obtain ⟨v', w', hr, h2, h3, h4⟩ := run_append_own (P := Try.prog) w B 22 o.type 87 i0 (.agg (ent ByteArray.empty 0 (List.replicate 32 0)).toArray) 34 56 Try.underlying22 hi hz0 hz1 hz2 (by simp [Value.cells, ent, bv]) (by decide) v n (entsV d) hown ⟨g, 0, none⟩ 1 1 y.cells (by rw [hyl]) hy (ent_one y) (by unfold maxLen; omega) (by omega) hbase
  obtain ⟨A', C', rfl⟩ := own_slice' h2
  unfold Oper.wp execOp
  simp only [ho, resolve, invoke, builtin, Sem.run_bind, Sem.run_pure, Result.andThen_ok, List.map_toArray, List.map_cons, List.map_nil, hs, hx, hr]
  exact h A' C' w' (by rw [show entsV (d ++ [y]) = entsV d ++ y.cells from by simp [entsV]]; exact h2) h3
theorem new_ent (w : World) (x : Fr.Ent) (t : TypeId) : ∀ j u, x.cells[j]? = some u → (w.alloc (.cells x.cells.toArray t)).cell? ((⟨w.heap.size, 0, none⟩ : Addr).add j) = some u := by
  intro j u hj
  rw [show Addr.add ⟨w.heap.size, 0, none⟩ j = (⟨w.heap.size, j, none⟩ : Addr) from by unfold Addr.add; split <;> simp_all, World.cell?_alloc_new]
  simpa using hj
theorem range_grown {w w' : World} {R X o : Nat} {cs : List Value} (h : w.rangeAt X o cs) (hg : w.grownBy w' (some R)) (hX : X < w.heap.size) (hne : X ≠ R) : w'.rangeAt X o cs := fun j v hj => by
  rw [cell_grown hg (p := ⟨X, o + j, none⟩) hX hne]
  exact h j v hj
/-- behind whatever turned nothing below B -/
theorem Rdr.belowB {w w' : World} {R N : Nat} {t : TypeId} {A : Option Addr} {L C : Nat} {l : List Int} {at' : Nat} {f : Int} {E : Nat → Value} {B : Nat} (h : Rdr w R N t A L C l at' f E) (hb : Below B w w') (hR : R < B) (hA : ∀ x, A = some x → 0 < L → x.block < B) : Rdr w' R N t A L C l at' f E :=
  ⟨h.row.of_block (hb.block R hR), h.hN, ⟨h.rd.len, h.rd.cap, h.rd.max, h.rd.big, h.rd.none, h.rd.byte, fun x hx => by
    obtain ⟨h1, h2⟩ := h.rd.cell x hx
    refine ⟨fun h0 => Nat.lt_of_lt_of_le (h1 h0) hb.size, fun i hi => ?_⟩
    have e : (x.add i).block = x.block := add_block x i
    rw [hb.cell (p := x.add i) (by rw [e]; exact hA x hx (by omega))]
    exact h2 i hi⟩, h.apart, h.le⟩
/-- the entries' cell is laid anew -/
theorem Rdr.setE {w : World} {R : Nat} {t : TypeId} {A : Option Addr} {L C : Nat} {l : List Int} {at' : Nat} {f : Int} {E : Nat → Value} (h : Rdr w R 4 t A L C l at' f E) (v : Value) : Rdr (w.setCell ⟨R, 3, none⟩ v) R 4 t A L C l at' f (fun _ => v) :=
  ⟨(h.row.set 3 v).congr (fun j hj => by
    match j, hj with
    | 0, _ => rfl
    | 1, _ => rfl
    | 2, _ => rfl
    | 3, _ => rfl), h.hN, h.rd.grown (grown_set w R 3 v) h.apart, h.apart, h.le⟩
/-- the last entry's name, in its cell -/
theorem ahd_of {w : World} {B : Nat} {Ae : Option Addr} {ne Ce : Nat} {es : List Fr.Ent} (h : w.ownsRow B 87 34 (.slice Ae ne Ce) ne (entsV es)) (hid : ∀ x ∈ es, x.id.length = 32) (hn : ne ≤ 1000000) (he : es.length = ne) : Ahd w Ae ne Ce (lastN es) := by
  rcases h.2 with ⟨hv, hz⟩ | ⟨g, cap, cur, hv, hb, hg, hnc, hcm, hcs, htake⟩
  · simp only [Value.slice.injEq] at hv
    obtain ⟨rfl, -, rfl⟩ := hv
    subst hz
    have : es = [] := List.eq_nil_of_length_eq_zero he
    subst this
    exact ⟨Nat.le_refl _, by omega, by omega, fun _ => rfl, fun h => absurd h (by omega)⟩
  · simp only [Value.slice.injEq, true_and] at hv
    obtain ⟨rfl, rfl⟩ := hv
    refine ⟨hnc, hcm, hn, fun h0 => ?_, fun h0 => ?_⟩
    · have : es = [] := List.eq_nil_of_length_eq_zero (by omega)
      subst this; rfl
    · rcases List.eq_nil_or_concat es with rfl | ⟨m, x, rfl⟩
      · simp at he; omega
      · rw [List.concat_eq_append] at *
        have hml : m.length = ne - 1 := by simp at he; omega
        have hfl : ∀ q : List Fr.Ent, (∀ x ∈ q, x.id.length = 32) → (entsV q).length = q.length * 34 := by
          intro q
          induction q with
          | nil => intro _; rfl
          | cons y q ih =>
            intro hq
            have h1 := ih (fun z hz => hq z (List.mem_cons_of_mem _ hz))
            have h2 := ent_len y (hq y (List.mem_cons_self ..))
            simp only [entsV, List.flatMap_cons, List.length_append, List.length_cons] at *
            omega
        have hl2 := hfl m (fun z hz => hid z (by simp [hz]))
        refine ⟨g, 0, x.name, rfl, by simp [lastN], ?_, ?_⟩
        · rw [Nat.zero_add, World.ownsRow.cellAt h _ (by omega)]
          rw [show entsV (m ++ [x]) = entsV m ++ x.cells from by simp [entsV], List.getElem?_append_right (by rw [hl2, hml]; omega), hl2, hml, Nat.sub_self]
          rfl
        · rcases Nat.lt_or_ge g w.heap.size with h | h
          · exact h
          · rw [Array.getElem?_eq_none h] at hg; simp at hg
theorem below_of_grown {w W : World} {R : Nat} (h : w.grownBy W (some R)) (hR : R < w.heap.size) : Below R w W :=
  (Below.refl R w).grown h (Nat.le_of_lt hR) (fun k hk => by have := Option.some.inj hk; omega)
theorem fold_data (l : List Int) : ∀ r : ByteArray, (l.foldl (fun r n => r.push (UInt8.ofNat n.toNat)) r).data.toList = r.data.toList ++ l.map (fun n => UInt8.ofNat n.toNat) := by
  induction l with
  | nil => intro r; simp
  | cons x l ih =>
    intro r
    rw [List.foldl_cons, ih]
    simp [ByteArray.push]
theorem sb_data (l : List Int) : (sb l).data.toList = l.map (fun n => UInt8.ofNat n.toNat) := by
  rw [sb, fold_data]; simp
theorem sb_size (l : List Int) : (sb l).size = l.length := by
  have h := congrArg List.length (sb_data l)
  simpa using h
/-- what one entry's bytes say, by its parts -/
theorem rd1_eq {l : List Int} {at' L m : Nat} {F2 F3 F4 k : Int} {A2 A3 A4 : Nat} {nm : ByteArray} {ids : List Int} (hm : rdM l at' L = m) (hF2 : F2 = tkF (tkF 0 at' L 1) (tkA 0 at' L 1) L 1) (hA2 : A2 = tkA (tkF 0 at' L 1) (tkA 0 at' L 1) L 1) (hk : k = nv (tkL 0 l at' L 1)) (hn : nm = sb (tkL F2 l A2 L m)) (hF3 : F3 = tkF F2 A2 L m) (hA3 : A3 = tkA F2 A2 L m) (hi : ids = idv (tkL F3 l A3 L 32)) (hF4 : F4 = tkF F3 A3 L 32) (hA4 : A4 = tkA F3 A3 L 32) : rd1 l at' L = ⟨A4, F4, k, nm, ids⟩ := by
  subst hm hF2 hA2 hk hn hF3 hA3 hi hF4 hA4
  rfl
theorem rdF_eq {l : List Int} {at' L cnt pos : Nat} {F4 F5 F6 k c : Int} {nm : ByteArray} {ids : List Int} {prev : Option ByteArray} (h : rd1 l at' L = ⟨pos, F4, k, nm, ids⟩) (h5 : F5 = if cnt = 512 then fl F4 4 else F4) (hc : c = ce k nm ids prev) (h6 : F6 = fl F5 c) : rdF l at' L cnt prev = F6 := by
  unfold rdF
  rw [h]
  subst h5 hc h6
  rfl
theorem range_grownO {w w' : World} {X o : Nat} {b : Option Nat} {cs : List Value} (h : w.rangeAt X o cs) (hg : w.grownBy w' b) (hX : X < w.heap.size) (hne : b ≠ some X) : w'.rangeAt X o cs := fun j v hj =>
  (World.cell?_of_block (a := ⟨X, o + j, none⟩) (hg.block X hX (fun e => hne e.symm))).trans (h j v hj)
/-- the entry stands behind the others -/
theorem ent_done {R : Nat} {A : Option Addr} {L C : Nat} {l : List Int} {at' : Nat} {B : Nat} {Ae : Option Addr} {ne Ce : Nat} {es : List Fr.Ent} {w : World} (h : Tr w R A L C l at' 0 B Ae ne Ce es) {wE : World} {pos : Nat} {f : Int} {x : Fr.Ent} {A' : Option Addr} {C' : Nat} (dR : Rdr wE R 4 96 A L C l pos f (fun _ => .slice Ae ne Ce)) (hoE : wE.ownsRow B 87 34 (.slice A' (ne + 1) C') (ne + 1) (entsV (es ++ [x]))) (hx : x.id.length = 32) (hb : Below R w wE) :
    Tr (wE.setCell ⟨R, 3, none⟩ (.slice A' (ne + 1 : Nat) C')) R A L C l pos f B A' (ne + 1) C' (es ++ [x]) ∧ Below R w (wE.setCell ⟨R, 3, none⟩ (.slice A' (ne + 1 : Nat) C')) := by
  have hRB := h.hB
  refine ⟨⟨dR.setE _, own_grown hoE (grown_set wE R 3 _) (fun e => by have := (hoE.lt R e).1; omega), hRB, ?_, ?_, h.hAB, ?_⟩, hb.setCell (p := ⟨R, 3, none⟩) (Nat.le_refl _) _⟩
  · have h1 := h.hBs
    have h2 := hb.size
    show B ≤ (World.setCell _ _ _).heap.size
    have : wE.heap.size ≤ (wE.setCell ⟨R, 3, none⟩ (.slice A' (ne + 1 : Nat) C')).heap.size := (grown_set wE R 3 _).size
    omega
  · intro y hy
    rcases List.mem_append.1 hy with hy | hy
    · exact h.ids y hy
    · rw [List.mem_singleton.1 hy]; exact hx
  · simp [h.hne]
/-- a row of one entry is made -/
theorem step_build_ent (w : World) {ops : Array Oper} {o : Oper} {a : Act} {K : Act → World → Prop} {Q : Exit → Act → World → Prop} {E : Prop} (hgd : o.guard = none) (x : Operand)
    (ho : o.op = .buildSlice 22 1 #[(0, x)]) (cs : List Value) (hx : a.eval x = .agg cs.toArray) (hl : cs.length = 34)
    (h : K (a.put o.dst (.slice (some ⟨w.heap.size, 0, none⟩) 1 1)) (w.alloc (.cells cs.toArray 87))) :
    if Region.wanted o (yielded ops a.tmps) = true then Oper.wp Try.prog o a w K Q else E := by
  have hw : Region.wanted o (yielded ops a.tmps) = true := by simp [Region.wanted, hgd]
  rw [if_pos hw]
  obtain ⟨i0, hi, hz0, hz1, hz2⟩ := info_parts info87
  refine wp_buildSlice 22 87 1 #[(0, x)] ho cs.toArray i0 _ Try.underlying22 hi hz0 (by rw [hz1]; decide) (by rw [hz1]; decide) ?_ h
  rw [hz1]
  have hz34 : (Value.agg (ent ByteArray.empty 0 (List.replicate 32 0)).toArray).cells.size = 34 := by simp [Value.cells, ent, bv]
  have := Great.fill_whole (s := 34) (by decide) [Value.agg cs.toArray] ((Array.range (1 * 34)).map ((Value.agg (ent ByteArray.empty 0 (List.replicate 32 0)).toArray).cells[· % (Value.agg (ent ByteArray.empty 0 (List.replicate 32 0)).toArray).cells.size]!)) (by simp [Value.cells, hl]) (by simp)
  simpa [hx, Value.cells] using this
end Go.Proofs.Ytmcmapgllaopmaa.Cd
end
