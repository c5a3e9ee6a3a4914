/- merge3.Merge. -/
import Derived.Test.YtlaneilmffdahaaMgChunks
import Derived.Test.YtlaneilmffdahaaMgRender
import Derived.Test.YtlaneilmffdahaaLnSplitR
namespace Go.Proofs.Ytlaneilmffdahaa.Mg
open Go.RowKit Go.Proofs.Ytlaneilmffdahaa.Ln
set_option linter.unusedVariables false

/-- the lines of bytes -/
def spl (z : List Int) : List ByteArray := (splA [] z).map sb
theorem spl_len (z : List Int) : (spl z).length = (splA [] z).length := by simp [spl]
theorem sb_size (l : List Int) : (sb l).size = l.length := by
  show (sb l).data.size = _
  rw [← Array.length_toList, sb_data, List.length_map]
theorem flat_mem {L : List (List Int)} {l : List Int} (h : l ∈ L) : l.length ≤ L.flatten.length := by
  induction L with
  | nil => simp at h
  | cons x L ih =>
    rw [List.flatten_cons, List.length_append]
    rcases List.mem_cons.1 h with rfl | h
    · omega
    · have := ih h; omega
theorem spl_size (z : List Int) : ∀ s ∈ spl z, s.size ≤ z.length := by
  intro s hs
  obtain ⟨l, hl, rfl⟩ := List.mem_map.1 hs
  rw [sb_size]
  have := flat_mem hl
  have e := splA_flat z []
  rw [e] at this
  simpa using this
theorem spl_lines (z : List Int) : (spl z).length ≤ z.length := by
  have := splA_len z []
  rw [spl_len]
  simpa using this
theorem split_str (A : Option Addr) (n C : Nat) (z : List Int) (w : World) (h : Rd w w.heap.size A n C (bv z)) (hb : ∀ x ∈ z, 0 ≤ x ∧ x ≤ 255) (hn : n ≤ 1000000) :
    Calls Try.prog 42 #[.slice A n C] w (StrRet (spl z) w) :=
  (split_any A n C z w h hb hn).mono fun e w' ⟨A', C', he, ho, hbl⟩ => ⟨A', C', by rw [he, spl_len], by rw [spl_len]; exact ho, hbl⟩

/-- bytes of chunks' sides, all together -/
theorem szC_lines (l : List Ch) : szC l = (ints (lb l)).length + (ints (lo l)).length + (ints (lt l)).length + 40 * l.length := by
  induction l with
  | nil => rfl
  | cons c l ih =>
    have e : szC (c :: l) = szC [c] + szC l := szC_append [c] l
    have e1 : lb (c :: l) = c.b ++ lb l := rfl
    have e2 : lo (c :: l) = c.o ++ lo l := rfl
    have e3 : lt (c :: l) = c.t ++ lt l := rfl
    rw [e, szC_one, ih, e1, e2, e3, ints_append, ints_append, ints_append]
    simp only [List.length_append, List.length_cons]
    omega
theorem szC_chunks (a b c : List ByteArray) {x y z m : Nat} (ha : (ints a).length ≤ x) (hb : (ints b).length ≤ y) (hc : (ints c).length ≤ z) (hl : a.length + b.length + c.length ≤ m) : szC (chunks a b c) ≤ x + y + z + 40 * m := by
  have h := len_lines _ (chunks_kind a b c)
  rw [linesC_chunks] at h
  obtain ⟨e1, e2, e3⟩ := chunks_lines a b c
  rw [szC_lines, e1, e2, e3]
  omega
theorem clean_take (l : List Ch) (k : Nat) (h : k < l.length) : clean (l.take (k + 1)) = (clean (l.take k) && (l[k].k != 4)) := by
  rw [List.take_succ_eq_append_getElem h, clean_append]
  simp [clean]

/-- what Merge answers -/
def MgRet (l : List Ch) (w : World) (e : Ending) (w' : World) : Prop :=
  ∃ A C, e = .returned (.tuple #[.slice A (rend l).length C, .bool (clean l), .int .i64 0]) ∧ w'.ownsRow w.heap.size 5 1 (.slice A (rend l).length C) (rend l).length (bv (rend l)) ∧ Below w.heap.size w w'
theorem ChRet.rd {l : List Ch} {w w' : World} {e : Ending} (h : ChRet l w e w') (hl : linesC l ≤ 100000000) : ∃ A C, e = .returned (.tuple #[.slice A l.length C, .int .i64 0]) ∧ RdC w' w'.heap.size A l.length C l ∧ Below w.heap.size w w' := by
  obtain ⟨A, C, cv, rfl, hcv, ho, hr, hb⟩ := h
  refine ⟨A, C, rfl, ?_, hb⟩
  have hn : cv.length = l.length := by rw [← hcv, List.length_map]
  have := RdC.of_own ho hr hn (fun c hc => by
    have hm : c.ch ∈ l := by rw [← hcv]; exact List.mem_map_of_mem hc
    have := mem_lines hm
    simp only [Cv.ch] at this
    omega)
  rw [hcv] at this
  exact this

set_option maxRecDepth 100000 in
set_option maxHeartbeats 4000000 in
theorem merge_any (A0 : Option Addr) (n0 C0 : Nat) (z0 : List Int) (A1 : Option Addr) (n1 C1 : Nat) (z1 : List Int) (A2 : Option Addr) (n2 C2 : Nat) (z2 : List Int) (w : World)
    (h0 : Rd w w.heap.size A0 n0 C0 (bv z0)) (h1 : Rd w w.heap.size A1 n1 C1 (bv z1)) (h2 : Rd w w.heap.size A2 n2 C2 (bv z2))
    (b0 : ∀ x ∈ z0, 0 ≤ x ∧ x ≤ 255) (b1 : ∀ x ∈ z1, 0 ≤ x ∧ x ≤ 255) (b2 : ∀ x ∈ z2, 0 ≤ x ∧ x ≤ 255)
    (k0 : n0 ≤ 10000) (k1 : n1 ≤ 10000) (k2 : n2 ≤ 10000) (l0 : (spl z0).length ≤ 4000) (l1 : (spl z1).length ≤ 4000) (l2 : (spl z2).length ≤ 4000) :
    Calls Try.prog 18 #[.slice A0 n0 C0, .slice A1 n1 C1, .slice A2 n2 C2] w (MgRet (chunks (spl z0) (spl z1) (spl z2)) w) := by
  have e0 : z0.length = n0 := by have := h0.hlen; simpa [bv] using this
  have e1 : z1.length = n1 := by have := h1.hlen; simpa [bv] using this
  have e2 : z2.length = n2 := by have := h2.hlen; simpa [bv] using this
  have HS0 := Lib.hid (split_str A0 n0 C0 z0 w h0 b0 (by omega))
  have HS1 := Lib.hid (fun (wx : World) (hb : Below w.heap.size w wx) => split_str A1 n1 C1 z1 wx ((h1.below hb).more hb.size) b1 (by omega))
  have HS2 := Lib.hid (fun (wx : World) (hb : Below w.heap.size w wx) => split_str A2 n2 C2 z2 wx ((h2.below hb).more hb.size) b2 (by omega))
  have HM := Lib.hid (And.intro (fun s hs => Nat.le_trans (spl_size z0 s hs) (show z0.length ≤ maxLen by unfold maxLen; omega)) (And.intro (fun s hs => Nat.le_trans (spl_size z1 s hs) (show z1.length ≤ maxLen by unfold maxLen; omega)) (fun s hs => Nat.le_trans (spl_size z2 s hs) (show z2.length ≤ maxLen by unfold maxLen; omega))))
  have hz := szC_chunks (spl z0) (spl z1) (spl z2) (x := 10000) (y := 10000) (z := 10000) (m := 12000) (by unfold spl; rw [ints_spl z0 b0]; omega) (by unfold spl; rw [ints_spl z1 b1]; omega) (by unfold spl; rw [ints_spl z2 b2]; omega) (by omega)
  have hlin := linesC_chunks (spl z0) (spl z1) (spl z2)
  have HZ := Lib.hid (show szC (chunks (spl z0) (spl z1) (spl z2)) ≤ 5000000 by omega)
  have HL := Lib.hid (show linesC (chunks (spl z0) (spl z1) (spl z2)) ≤ 12000 by omega)
  have hll := len_lines _ (chunks_kind (spl z0) (spl z1) (spl z2))
  have hln : (chunks (spl z0) (spl z1) (spl z2)).length ≤ 12000 := by omega
  clear h0 h1 h2 e0 e1 e2 hz hlin hll
  generalize spl z0 = s0 at *
  generalize spl z1 = s1 at *
  generalize spl z2 = s2 at *
  go_enter Try.func18, Try.ntmps18
  go_wp2_with fail
  refine HS0.out.mono ?_
  rintro e w1 ⟨A3, C3, rfl, ho0, hb0⟩
  have HO0 := Lib.hid ho0
  have HB0 := Lib.hid hb0
  clear ho0 hb0 HS0
  go_wp2_with fail
  refine (HS1.out w1 HB0.out).mono ?_
  rintro e w2 ⟨A4, C4, rfl, ho1, hb1⟩
  have HO1 := Lib.hid ho1
  have HO0' := Lib.hid (own_keep HO0.out hb1)
  have HB1 := Lib.hid (HB0.out.trans (hb1.mono HB0.out.size))
  clear ho1 hb1 HS1 HO0 HB0
  go_wp2_with fail
  refine (HS2.out w2 HB1.out).mono ?_
  rintro e w3 ⟨A5, C5, rfl, ho2, hb2⟩
  have R0 := Lib.hid (Rd.of_own (own_keep HO0'.out hb2) (by omega)).1
  have R1 := Lib.hid (Rd.of_own (own_keep HO1.out hb2) (by omega)).1
  have R2 := Lib.hid (Rd.of_own ho2 (by omega)).1
  have HB2 := Lib.hid (HB1.out.trans (hb2.mono HB1.out.size))
  clear ho2 hb2 HS2 HO1 HO0' HB1
  go_wp2_with fail
  refine (chunks_any A3 s0.length C3 s0 A4 s1.length C4 s1 A5 s2.length C5 s2 w3 R0.out R1.out R2.out HM.out.1 HM.out.2.1 HM.out.2.2 l0 l1 l2).mono ?_
  rintro e w4 hr
  obtain ⟨A6, C6, rfl, hrd, hb4⟩ := hr.rd (by have := HL.out; omega)
  have q1 := hrd.cap
  have q2 := hrd.max
  have HR := Lib.hid hrd
  have HB4 := Lib.hid (HB2.out.trans (hb4.mono HB2.out.size))
  clear hr hrd hb4 HB2 R0 R1 R2 HM
  generalize chunks s0 s1 s2 = l at *
  go_wp2_with fail
  go_loopw [11, 29] (fun s11 s29 wr => ∃ k : Nat, k ≤ l.length ∧ s29 = .int .i64 k ∧ s11 = .bool (clean (l.take k)) ∧ Hid (Below w4.heap.size w4 wr)) (fun _ s29 _ => l.length - (intOf s29).toNat)
  case atStart => exact ⟨0, Nat.zero_le _, rfl, rfl, Lib.hid (Below.refl _ _)⟩
  case round =>
    obtain ⟨k, hk, rfl, rfl, HB⟩ := hrel
    by_cases hlt : k < l.length
    · obtain ⟨g, o, vb, vo, vt, rfl, hg, c0, c1, c2, c3, ⟨Ab, nb, Cb, rfl, -⟩, ⟨Ao, no, Co, rfl, -⟩, ⟨At, nt, Ct, rfl, -⟩⟩ := (HR.out.below HB.out).cell k hlt
      have HT := Lib.hid (clean_take l k hlt)
      have HBn := Lib.hid (HB.out.alloc HB.out.size (.cells #[.int .i64 l[k].k, .slice Ab nb Cb, .slice Ao no Co, .slice At nt Ct] 37))
      generalize l[k].k = kd at *
      cases hcl : clean (l.take k) with
      | false =>
        have HT2 := Lib.hid (show clean (l.take (k + 1)) = false by rw [HT.out, hcl]; rfl)
        clear hcl HT
        go_wp2
        go_roundw
        case rel => exact ⟨k + 1, by omega, by go_num, by rw [HT2.out], HBn⟩
        case measure => simp [intOf]; omega
      | true =>
        by_cases h4 : kd = 4
        · have HT2 := Lib.hid (show clean (l.take (k + 1)) = false by rw [HT.out, hcl, h4]; rfl)
          have hb4 : (kd != 4) = false := by simp [h4]
          have H4 := Lib.hid h4
          clear hcl HT h4
          go_wp2
          go_roundw
          case rel => exact ⟨k + 1, by omega, by go_num, by rw [HT2.out], HBn⟩
          case measure => simp [intOf]; omega
        · have hb4 : (kd != 4) = true := by simp [h4]
          have HT2 := Lib.hid (show clean (l.take (k + 1)) = true by rw [HT.out, hcl, hb4]; rfl)
          clear hcl HT h4
          go_wp2
          go_roundw
          case rel => exact ⟨k + 1, by omega, by go_num, by rw [HT2.out], HBn⟩
          case measure => simp [intOf]; omega
    · have e : k = l.length := by omega
      have HT := Lib.hid (show clean (l.take k) = clean l by rw [e, List.take_length])
      clear e
      go_wp2_with fail
      refine (render_any A6 l.length C6 l wr ((HR.out.below HB.out).more HB.out.size) HZ.out).mono ?_
      rintro e w5 ⟨A7, C7, rfl, ho, hb⟩
      have HO := Lib.hid (own_base ho (Nat.le_trans HB4.out.size HB.out.size))
      have HB5 := Lib.hid ((HB4.out.trans (HB.out.mono HB4.out.size)).trans (hb.mono (Nat.le_trans HB4.out.size HB.out.size)))
      clear ho hb
      go_wp2_with fail
      go_ret3
      exact ⟨A7, C7, by rw [← HT.out]; rfl, HO.out, HB5.out⟩
end Go.Proofs.Ytlaneilmffdahaa.Mg
