/- The walk of MergeOne. -/
import Derived.Test.YtlaneilmffdahaaMgKnown
import Derived.Test.YtlaneilmffdahaaMgShort
namespace Go.Proofs.Ytlaneilmffdahaa.Mg
open Go.RowKit Go.Proofs.Ytlaneilmffdahaa.Ln
set_option linter.unusedVariables false

/-- Merge's answer, as text, where the rest is known -/
theorem merge_text (A0 : Option Addr) (n0 C0 : Nat) (z0 : List Int) (A1 : Option Addr) (n1 C1 : Nat) (z1 : List Int) (A2 : Option Addr) (n2 C2 : Nat) (z2 : List Int) (w : World)
    (h0 : Rd w w.heap.size A0 n0 C0 (bv z0)) (h1 : Rd w w.heap.size A1 n1 C1 (bv z1)) (h2 : Rd w w.heap.size A2 n2 C2 (bv z2))
    (b0 : ∀ x ∈ z0, 0 ≤ x ∧ x ≤ 255) (b1 : ∀ x ∈ z1, 0 ≤ x ∧ x ≤ 255) (b2 : ∀ x ∈ z2, 0 ≤ x ∧ x ≤ 255)
    (k0 : n0 ≤ 10000) (k1 : n1 ≤ 10000) (k2 : n2 ≤ 10000) (l0 : (spl z0).length ≤ 4000) (l1 : (spl z1).length ≤ 4000) (l2 : (spl z2).length ≤ 4000)
    (z : List Int) (n : Nat) (c : Bool) (hz : rend (chunks (spl z0) (spl z1) (spl z2)) = z ∧ clean (chunks (spl z0) (spl z1) (spl z2)) = c) (hn : z.length = n) :
    Calls Try.prog 18 #[.slice A0 n0 C0, .slice A1 n1 C1, .slice A2 n2 C2] w fun e w' => ∃ A C, e = .returned (.tuple #[.slice A n C, .bool c, .int .i64 0]) ∧ Hid (w'.ownsRow w.heap.size 5 1 (.slice A n C) n (bv z)) ∧ Hid (Below w.heap.size w w') :=
  (merge_any A0 n0 C0 z0 A1 n1 C1 z1 A2 n2 C2 z2 w h0 h1 h2 b0 b1 b2 k0 k1 k2 l0 l1 l2).mono fun e w' hr => hr.conv z n c hz hn
theorem rend_ours' (z0 z1 : List Int) (b1 : ∀ x ∈ z1, 0 ≤ x ∧ x ≤ 255) : rend (chunks (spl z0) (spl z1) (spl z0)) = z1 ∧ clean (chunks (spl z0) (spl z1) (spl z0)) = true := by
  obtain ⟨h1, h2⟩ := rend_ours (spl z0) (spl z1)
  exact ⟨h1.trans (ints_spl z1 b1), h2⟩
theorem rend_theirs' (z0 z1 : List Int) (b1 : ∀ x ∈ z1, 0 ≤ x ∧ x ≤ 255) : rend (chunks (spl z0) (spl z0) (spl z1)) = z1 ∧ clean (chunks (spl z0) (spl z0) (spl z1)) = true := by
  obtain ⟨h1, h2⟩ := rend_theirs (spl z0) (spl z1)
  exact ⟨h1.trans (ints_spl z1 b1), h2⟩
theorem rend_both' (z0 z1 : List Int) (b1 : ∀ x ∈ z1, 0 ≤ x ∧ x ≤ 255) : rend (chunks (spl z0) (spl z1) (spl z1)) = z1 ∧ clean (chunks (spl z0) (spl z1) (spl z1)) = true := by
  obtain ⟨h1, h2⟩ := rend_both (spl z0) (spl z1)
  exact ⟨h1.trans (ints_spl z1 b1), h2⟩

set_option maxRecDepth 100000 in
set_option maxHeartbeats 4000000 in
theorem walk_one (w : World) (a0 : Option Addr) (len0 cap0 : Nat) (z0 : List Int) (a1 : Option Addr) (len1 cap1 : Nat) (z1 : List Int) (r0 : Rd w w.heap.size a0 len0 cap0 (bv z0)) (r1 : Rd w w.heap.size a1 len1 cap1 (bv z1))
    (b0 : ∀ x ∈ z0, 0 ≤ x ∧ x ≤ 255) (b1 : ∀ x ∈ z1, 0 ≤ x ∧ x ≤ 255) :
    Calls Try.prog 6 #[.slice a0 len0 cap0, .slice a1 len1 cap1] w fun e w' => e = .returned (.bool true) ∧ Below w.heap.size w w' := by
  have HK := Lib.hid (known_any w)
  have H0 := Lib.hid r0
  have H1 := Lib.hid r1
  have E1 := Lib.hid (show z1.length = len1 by have := r1.hlen; simpa [bv] using this)
  have B0 := Lib.hid b0
  have B1 := Lib.hid b1
  clear r0 r1 b0 b1
  go_enter Try.func6, Try.ntmps6
  go_wp2_with fail
  refine HK.out.mono ?_
  rintro e w1 ⟨rfl, hb1⟩
  have HB1 := Lib.hid hb1
  have hz1 := HB1.out.size
  clear HK hb1
  go_wp2_with fail
  refine (short_any w.heap.size a0 len0 cap0 z0 w1 (H0.out.below HB1.out) hz1).mono ?_
  rintro e w2 ⟨f, rfl, hf, hb2⟩
  have HB2 := Lib.hid (HB1.out.trans (hb2.mono hz1))
  have hz2 := HB2.out.size
  clear hb2 HB1 hz1
  cases f
  · clear hf
    go_wp2
    go_ret
    exact ⟨rfl, HB2.out⟩
  obtain ⟨hn0, hl0⟩ := hf rfl
  clear hf
  go_wp2_with fail
  refine (short_any w.heap.size a1 len1 cap1 z1 w2 (H1.out.below HB2.out) hz2).mono ?_
  rintro e w3 ⟨f, rfl, hf, hb3⟩
  have HB3 := Lib.hid (HB2.out.trans (hb3.mono hz2))
  have hz3 := HB3.out.size
  clear hb3 HB2 hz2
  cases f
  · clear hf
    go_wp2
    go_ret
    exact ⟨rfl, HB3.out⟩
  obtain ⟨hn1, hl1⟩ := hf rfl
  clear hf
  have RR := Lib.hid (fun (wx : World) (hb : Below w.heap.size w wx) => (show Rd wx wx.heap.size a0 len0 cap0 (bv z0) ∧ Rd wx wx.heap.size a1 len1 cap1 (bv z1) from ⟨(H0.out.below hb).more hb.size, (H1.out.below hb).more hb.size⟩))
  go_wp2_with fail
  refine (merge_text a0 len0 cap0 z0 a1 len1 cap1 z1 a0 len0 cap0 z0 w3 (RR.out w3 HB3.out).1 (RR.out w3 HB3.out).2 (RR.out w3 HB3.out).1 B0.out B1.out B0.out (by omega) (by omega) (by omega) (by omega) (by omega) (by omega) z1 len1 true (rend_ours' z0 z1 B1.out) E1.out).mono ?_
  rintro e w4 ⟨A4, C4, rfl, HO4, hb4⟩
  have HB4 := Lib.hid (HB3.out.trans (hb4.out.mono hz3))
  have hz4 := HB4.out.size
  clear hb4
  go_wp2_with fail
  refine (merge_text a0 len0 cap0 z0 a0 len0 cap0 z0 a1 len1 cap1 z1 w4 (RR.out w4 HB4.out).1 (RR.out w4 HB4.out).1 (RR.out w4 HB4.out).2 B0.out B0.out B1.out (by omega) (by omega) (by omega) (by omega) (by omega) (by omega) z1 len1 true (rend_theirs' z0 z1 B1.out) E1.out).mono ?_
  rintro e w5 ⟨A5, C5, rfl, HO5, hb5⟩
  have HB5 := Lib.hid (HB4.out.trans (hb5.out.mono hz4))
  have hz5 := HB5.out.size
  have HO4' := Lib.hid (own_keep HO4.out hb5.out)
  clear hb5 HO4
  go_wp2_with fail
  refine (merge_text a0 len0 cap0 z0 a1 len1 cap1 z1 a1 len1 cap1 z1 w5 (RR.out w5 HB5.out).1 (RR.out w5 HB5.out).2 (RR.out w5 HB5.out).2 B0.out B1.out B1.out (by omega) (by omega) (by omega) (by omega) (by omega) (by omega) z1 len1 true (rend_both' z0 z1 B1.out) E1.out).mono ?_
  rintro e w6 ⟨A6, C6, rfl, HO6, hb6⟩
  have HB6 := Lib.hid (HB5.out.trans (hb6.out.mono hz5))
  have cv4 := conv_row (own_keep HO4'.out hb6.out) (by omega)
  have cv5 := conv_row (own_keep HO5.out hb6.out) (by omega)
  have cv6 := conv_row HO6.out (by omega)
  have cv1 := conv_rd (RR.out w6 HB6.out).2
  have hq : ((sb z1).toList == (sb z1).toList) = true := by simp
  clear hb6 HO4' HO5 HO6 HB3 HB4 HB5 RR E1
  generalize sb z1 = s at *
  go_wp2_with fail
  go_ret
  exact ⟨rfl, HB6.out⟩
end Go.Proofs.Ytlaneilmffdahaa.Mg
