/- few of three texts; SameChunks of the same chunks. -/
import Derived.Test.YtlaneilmffdahaaMgShort
import Derived.Test.YtlaneilmffdahaaMgSide
namespace Go.Proofs.Ytlaneilmffdahaa.Mg
open Go.RowKit Go.Proofs.Ytlaneilmffdahaa.Ln
set_option linter.unusedVariables false

set_option maxRecDepth 100000 in
set_option maxHeartbeats 2000000 in
theorem few3_any (B : Nat) (a0 : Option Addr) (l0 c0 : Nat) (s0 : List ByteArray) (a1 : Option Addr) (l1 c1 : Nat) (s1 : List ByteArray) (a2 : Option Addr) (l2 c2 : Nat) (s2 : List ByteArray) (w : World)
    (h0 : Rd w B a0 l0 c0 (sv s0)) (h1 : Rd w B a1 l1 c1 (sv s1)) (h2 : Rd w B a2 l2 c2 (sv s2)) (hB : B ≤ w.heap.size)
    (q0 : ∀ s ∈ s0, s.size ≤ 140737488351232) (q1 : ∀ s ∈ s1, s.size ≤ 140737488351232) (q2 : ∀ s ∈ s2, s.size ≤ 140737488351232) :
    Calls Try.prog 11 #[.slice a0 l0 c0, .slice a1 l1 c1, .slice a2 l2 c2] w fun e w' => ∃ f : Bool, e = .returned (.bool f) ∧ (f = true → (l0 ≤ 119 ∧ sz s0 ≤ 2380) ∧ (l1 ≤ 119 ∧ sz s1 ≤ 2380) ∧ (l2 ≤ 119 ∧ sz s2 ≤ 2380)) ∧ Below w.heap.size w w' := by
  have H0 := Lib.hid h0
  have H1 := Lib.hid h1
  have H2 := Lib.hid h2
  have Q0 := Lib.hid q0
  have Q1 := Lib.hid q1
  have Q2 := Lib.hid q2
  clear h0 h1 h2 q0 q1 q2
  go_enter Try.func11, Try.ntmps11
  go_wp2_with fail
  refine (few_sum B a0 l0 c0 s0 w H0.out Q0.out).mono ?_
  rintro e w1 ⟨f, rfl, hf, hb1⟩
  have HB1 := Lib.hid hb1
  have HF0 := Lib.hid hf
  clear hb1 hf
  cases f
  · go_wp2_with fail
    go_ret
    exact ⟨false, rfl, (fun h => by cases h), HB1.out⟩
  go_wp2_with fail
  refine (few_sum B a1 l1 c1 s1 w1 (H1.out.below (HB1.out.mono hB)) Q1.out).mono ?_
  rintro e w2 ⟨f, rfl, hf, hb2⟩
  have HB2 := Lib.hid (HB1.out.trans (hb2.mono HB1.out.size))
  have HF1 := Lib.hid hf
  clear hb2 hf HB1
  cases f
  · go_wp2_with fail
    go_ret
    exact ⟨false, rfl, (fun h => by cases h), HB2.out⟩
  go_wp2_with fail
  refine (few_sum B a2 l2 c2 s2 w2 (H2.out.below (HB2.out.mono hB)) Q2.out).mono ?_
  rintro e w3 ⟨f, rfl, hf, hb3⟩
  have HB3 := Lib.hid (HB2.out.trans (hb3.mono HB2.out.size))
  have HF2 := Lib.hid hf
  clear hb3 hf HB2
  go_wp2_with fail
  go_ret
  exact ⟨f, rfl, fun h => ⟨HF0.out (by first | rfl | trivial), HF1.out (by first | rfl | trivial), HF2.out h⟩, HB3.out⟩

set_option maxRecDepth 100000 in
set_option maxHeartbeats 4000000 in
theorem sameChunks_any (B1 B2 : Nat) (A1 : Option Addr) (n C1 : Nat) (A2 : Option Addr) (C2 : Nat) (l : List Ch) (w : World) (h1 : RdC w B1 A1 n C1 l) (h2 : RdC w B2 A2 n C2 l) (hn : n ≤ 1000000) :
    Calls Try.prog 14 #[.slice A1 n C1, .slice A2 n C2] w fun e w' => e = .returned (.bool true) ∧ ∃ d, w' = w.drewN d := by
  have q1 := h1.cap
  have q2 := h1.max
  have q3 := h2.cap
  have q4 := h2.max
  have HL := Lib.hid h1.len
  have H1 := Lib.hid h1
  have H2 := Lib.hid h2
  have hne : ((n : Int) != (n : Int)) = false := by simp
  clear h1 h2
  go_enter Try.func14, Try.ntmps14
  go_wp2
  go_loopw [5] (fun s5 wr => ∃ k d : Nat, k ≤ n ∧ s5 = .int .i64 k ∧ Hid (wr = w.drewN d)) (fun s5 _ => n - (intOf s5).toNat)
  case atStart => exact ⟨0, 0, Nat.zero_le _, rfl, Lib.hid rfl⟩
  case round =>
    obtain ⟨k, d, hk, rfl, HW⟩ := hrel
    by_cases hlt : k < n
    · have hkl : k < l.length := by rw [HL.out]; exact hlt
      obtain ⟨g1, o1, vb1, vo1, vt1, rfl, -, c0, c1, c2, c3, ⟨Ab1, nb1, Cb1, rfl, rb1⟩, ⟨Ao1, no1, Co1, rfl, ro1⟩, ⟨At1, nt1, Ct1, rfl, rt1⟩⟩ := H1.out.cell k hkl
      obtain ⟨g2, o2, vb2, vo2, vt2, rfl, -, d0, d1, d2, d3, ⟨Ab2, nb2, Cb2, rfl, rb2⟩, ⟨Ao2, no2, Co2, rfl, ro2⟩, ⟨At2, nt2, Ct2, rfl, rt2⟩⟩ := H2.out.cell k hkl
      have eb := (rd_len rb1).symm.trans (rd_len rb2)
      have eo := (rd_len ro1).symm.trans (rd_len ro2)
      have et := (rd_len rt1).symm.trans (rd_len rt2)
      subst eb eo et
      have hcell : ∀ a : Addr, wr.cell? a = w.cell? a := fun a => by rw [HW.out]; rfl
      rw [← hcell] at c0 c1 c2 c3 d0 d1 d2 d3
      have SB := Lib.hid (fun d' => (Ln.same_any B1 B2 Ab1 nb1 Cb1 Ab2 Cb2 l[k].b (wr.drewN d') (by rw [HW.out]; exact (rb1.drewN d).drewN d') (by rw [HW.out]; exact (rb2.drewN d).drewN d')))
      have SO := Lib.hid (fun d' => (Ln.same_any B1 B2 Ao1 no1 Co1 Ao2 Co2 l[k].o (wr.drewN d') (by rw [HW.out]; exact (ro1.drewN d).drewN d') (by rw [HW.out]; exact (ro2.drewN d).drewN d')))
      have ST := Lib.hid (fun d' => (Ln.same_any B1 B2 At1 nt1 Ct1 At2 Ct2 l[k].t (wr.drewN d') (by rw [HW.out]; exact (rt1.drewN d).drewN d') (by rw [HW.out]; exact (rt2.drewN d).drewN d')))
      have hkk : (l[k].k != l[k].k) = false := by simp
      clear hcell rb1 ro1 rt1 rb2 ro2 rt2
      generalize l[k].k = kd at *
      go_wp2
      go_quiet ((go_at_call 26; first | (with_reducible exact Calls.quiet_of (SB.out _)) | (with_reducible exact Calls.quiet_of (SO.out _)) | (with_reducible exact Calls.quiet_of (ST.out _))))
      go_wp2
      go_roundw
      case rel => exact ⟨k + 1, d + nq, by omega, by go_num, Lib.hid (by rw [HW.out]; exact World.drewN_drewN _ _ _)⟩
      case measure => simp [intOf]; omega
    · go_wp2
      go_ret
      exact ⟨rfl, d, HW.out⟩
end Go.Proofs.Ytlaneilmffdahaa.Mg
