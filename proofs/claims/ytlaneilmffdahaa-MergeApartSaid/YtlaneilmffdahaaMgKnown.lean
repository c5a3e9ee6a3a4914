/- The chapter's examples. -/
import Derived.Test.YtlaneilmffdahaaMgMerge
import Derived.Test.YtlaneilmffdahaaLnBytesApp
import Derived.Lib.SlBytesConst
namespace Go.Proofs.Ytlaneilmffdahaa.Mg
open Go.RowKit Go.Proofs.Ytlaneilmffdahaa.Ln
set_option linter.unusedVariables false

theorem st_one {a b c x : ByteArray} (h2 : b ≠ x) (h3 : c ≠ x) (h4 : b ≠ c) : partS (steps [a, b, c] [a, x, c]) 0 = [0, -1, 2] := by
  simp [steps_cons, lcs_cons, lcs_nil_left, lcs_nil_right, steps_nil_left, h2, h3, h4, partS]
theorem st_two (a b c d : ByteArray) : partS (steps [a, b, c] [a, b, c, d]) 0 = [0, 1, 2] := by
  simp [steps_cons, steps_nil_left, partS]
theorem st_three {a b : ByteArray} (h : a ≠ b) : partS (steps [a] [b]) 0 = [-1] := by
  simp [steps_cons, lcs_nil_left, lcs_nil_right, steps_nil_left, h, partS]
theorem known_one {a b c x d : ByteArray} (h2 : b ≠ x) (h3 : c ≠ x) (h4 : b ≠ c) : rend (chunks [a, b, c] [a, x, c] [a, b, c, d]) = ints [a, x, c, d] ∧ clean (chunks [a, b, c] [a, x, c] [a, b, c, d]) = true := by
  unfold chunks
  rw [st_one h2 h3 h4, st_two]
  have h2' := Ne.symm h2
  simp [endC, stC, List.range_succ, stepC, addC, sameC, gapC, kindOf, seg, h2', rend, rendC, clean, ints]
theorem known_two {a b c : ByteArray} (h1 : a ≠ b) (h2 : a ≠ c) (h3 : b ≠ c) : rend (chunks [a] [b] [c]) = mk 0 ++ endd [b] ++ mk 1 ++ endd [a] ++ mk 2 ++ endd [c] ++ mk 3 ∧ clean (chunks [a] [b] [c]) = false := by
  unfold chunks
  rw [st_three h1, st_three h2]
  simp [endC, stC, List.range_succ, stepC, addC, gapC, kindOf, seg, h1, h2, h3, rend, rendC, clean]
theorem sb_ne {a b : Int} (h : a.toNat % 256 ≠ b.toNat % 256) : sb [a, 10] ≠ sb [b, 10] := by
  intro e
  have := congrArg (fun s : ByteArray => s.data.toList) e
  simp only [sb_data, List.map_cons, List.map_nil, List.cons.injEq] at this
  have h2 := congrArg UInt8.toNat this.1
  simp at h2
  exact h h2
theorem rd_lit' (w : World) (l : List Int) (hb : l.length ≤ 100) : Rd (w.alloc (.cells (bv l).toArray 5 (l.length, l.length + 1))) (w.heap.size + 1) (some ⟨w.heap.size, 0, none⟩) l.length l.length (bv l) := by
  refine ⟨bv_len l, Nat.le_refl _, by omega, by omega, (fun hn => by cases hn), fun i hi => ?_⟩
  refine ⟨w.heap.size, 0, .int .u8 (l.getD i 0), rfl, by omega, by simp [bv, hi], ?_⟩
  rw [Nat.zero_add, World.cell?_alloc_mark]
  simp [bv, hi]
theorem byte_of {l : List Int} (h : l.all (fun x => decide (0 ≤ x ∧ x ≤ 255)) = true) : ∀ x ∈ l, 0 ≤ x ∧ x ≤ 255 := by
  intro x hx
  have := List.all_eq_true.1 h x hx
  simpa using this

def zA : List Int := [97, 10, 98, 10, 99, 10]
def zB : List Int := [97, 10, 120, 10, 99, 10]
def zC : List Int := [97, 10, 98, 10, 99, 10, 100, 10]
theorem kn1 : rend (chunks (spl zA) (spl zB) (spl zC)) = [97, 10, 120, 10, 99, 10, 100, 10] ∧ clean (chunks (spl zA) (spl zB) (spl zC)) = true := by
  have h := known_one (a := sb [97, 10]) (b := sb [98, 10]) (c := sb [99, 10]) (x := sb [120, 10]) (d := sb [100, 10]) (sb_ne (by decide)) (sb_ne (by decide)) (sb_ne (by decide))
  have e1 : spl zA = [sb [97, 10], sb [98, 10], sb [99, 10]] := by simp [spl, zA, splA]
  have e2 : spl zB = [sb [97, 10], sb [120, 10], sb [99, 10]] := by simp [spl, zB, splA]
  have e3 : spl zC = [sb [97, 10], sb [98, 10], sb [99, 10], sb [100, 10]] := by simp [spl, zC, splA]
  rw [e1, e2, e3]
  refine ⟨h.1.trans ?_, h.2⟩
  exact ints_sb [[97, 10], [120, 10], [99, 10], [100, 10]] (by
    intro l hl x hx
    simp only [List.mem_cons, List.not_mem_nil, or_false] at hl
    rcases hl with rfl | rfl | rfl | rfl <;> simp at hx <;> omega)
theorem kn2 : rend (chunks (spl [97, 10]) (spl [98, 10]) (spl [99, 10])) = [60, 60, 60, 60, 60, 60, 60, 10, 98, 10, 124, 124, 124, 124, 124, 124, 124, 10, 97, 10, 61, 61, 61, 61, 61, 61, 61, 10, 99, 10, 62, 62, 62, 62, 62, 62, 62, 10] ∧ clean (chunks (spl [97, 10]) (spl [98, 10]) (spl [99, 10])) = false := by
  have h := known_two (a := sb [97, 10]) (b := sb [98, 10]) (c := sb [99, 10]) (sb_ne (by decide)) (sb_ne (by decide)) (sb_ne (by decide))
  have e1 : spl [97, 10] = [sb [97, 10]] := by simp [spl, splA]
  have e2 : spl [98, 10] = [sb [98, 10]] := by simp [spl, splA]
  have e3 : spl [99, 10] = [sb [99, 10]] := by simp [spl, splA]
  rw [e1, e2, e3]
  refine ⟨h.1.trans ?_, h.2⟩
  have g : ∀ x : Int, 0 ≤ x → x ≤ 255 → endd [sb [x, 10]] = [x, 10] := by
    intro x h0 h1
    have e : ints [sb [x, 10]] = [x, 10] := ints_sb [[x, 10]] (by
      intro l hl y hy
      rw [List.mem_singleton.1 hl] at hy
      simp at hy
      omega)
    unfold endd
    rw [e]
    simp
  rw [g 97 (by omega) (by omega), g 98 (by omega) (by omega), g 99 (by omega) (by omega)]
  rfl

theorem kc1 (w : World) (C : Array Value) (n c : Nat) : Sem.run Try.prog (convert 32 32 (Value.slice (some ⟨w.heap.size, 0, none⟩) n c)) (w.alloc (Obj.cells C 5)) = Result.ok (Value.slice (some ⟨w.heap.size, 0, none⟩) n c) (w.alloc (Obj.cells C 5 (C.size, C.size + 1))) :=
  Lib.run_convert_bytes_const (P := Try.prog) w 32 5 C n c Try.underlying32 Try.underlying5
theorem kc2 (w : World) (X : Obj) (C : Array Value) (n c : Nat) : Sem.run Try.prog (convert 32 32 (Value.slice (some ⟨w.heap.size + 1, 0, none⟩) n c)) ((w.alloc X).alloc (Obj.cells C 5)) = Result.ok (Value.slice (some ⟨w.heap.size + 1, 0, none⟩) n c) ((w.alloc X).alloc (Obj.cells C 5 (C.size, C.size + 1))) := by
  have h : (w.alloc X).heap.size = w.heap.size + 1 := by simp
  have := kc1 (w.alloc X) C n c
  rw [h] at this
  exact this
theorem kc3 (w : World) (X Y : Obj) (C : Array Value) (n c : Nat) : Sem.run Try.prog (convert 32 32 (Value.slice (some ⟨w.heap.size + 1 + 1, 0, none⟩) n c)) (((w.alloc X).alloc Y).alloc (Obj.cells C 5)) = Result.ok (Value.slice (some ⟨w.heap.size + 1 + 1, 0, none⟩) n c) (((w.alloc X).alloc Y).alloc (Obj.cells C 5 (C.size, C.size + 1))) := by
  have h : ((w.alloc X).alloc Y).heap.size = w.heap.size + 1 + 1 := by simp
  have := kc1 ((w.alloc X).alloc Y) C n c
  rw [h] at this
  exact this
theorem lit3 (w : World) (l1 l2 l3 : List Int) (h1 : l1.length ≤ 100) (h2 : l2.length ≤ 100) (h3 : l3.length ≤ 100) :
    Rd (((w.alloc (.cells (bv l1).toArray 5 (l1.length, l1.length + 1))).alloc (.cells (bv l2).toArray 5 (l2.length, l2.length + 1))).alloc (.cells (bv l3).toArray 5 (l3.length, l3.length + 1))) (w.heap.size + 1 + 1 + 1) (some ⟨w.heap.size, 0, none⟩) l1.length l1.length (bv l1) ∧
    Rd (((w.alloc (.cells (bv l1).toArray 5 (l1.length, l1.length + 1))).alloc (.cells (bv l2).toArray 5 (l2.length, l2.length + 1))).alloc (.cells (bv l3).toArray 5 (l3.length, l3.length + 1))) (w.heap.size + 1 + 1 + 1) (some ⟨w.heap.size + 1, 0, none⟩) l2.length l2.length (bv l2) ∧
    Rd (((w.alloc (.cells (bv l1).toArray 5 (l1.length, l1.length + 1))).alloc (.cells (bv l2).toArray 5 (l2.length, l2.length + 1))).alloc (.cells (bv l3).toArray 5 (l3.length, l3.length + 1))) (w.heap.size + 1 + 1 + 1) (some ⟨w.heap.size + 1 + 1, 0, none⟩) l3.length l3.length (bv l3) ∧
    Below w.heap.size w (((w.alloc (.cells (bv l1).toArray 5 (l1.length, l1.length + 1))).alloc (.cells (bv l2).toArray 5 (l2.length, l2.length + 1))).alloc (.cells (bv l3).toArray 5 (l3.length, l3.length + 1))) ∧
    (((w.alloc (.cells (bv l1).toArray 5 (l1.length, l1.length + 1))).alloc (.cells (bv l2).toArray 5 (l2.length, l2.length + 1))).alloc (.cells (bv l3).toArray 5 (l3.length, l3.length + 1))).heap.size = w.heap.size + 1 + 1 + 1 := by
  have z1 : (w.alloc (.cells (bv l1).toArray 5 (l1.length, l1.length + 1))).heap.size = w.heap.size + 1 := by simp
  have z2 : ((w.alloc (.cells (bv l1).toArray 5 (l1.length, l1.length + 1))).alloc (.cells (bv l2).toArray 5 (l2.length, l2.length + 1))).heap.size = w.heap.size + 1 + 1 := by simp
  have a1 := rd_lit' w l1 h1
  have a2 := rd_lit' (w.alloc (.cells (bv l1).toArray 5 (l1.length, l1.length + 1))) l2 h2
  have a3 := rd_lit' ((w.alloc (.cells (bv l1).toArray 5 (l1.length, l1.length + 1))).alloc (.cells (bv l2).toArray 5 (l2.length, l2.length + 1))) l3 h3
  rw [z1] at a2
  rw [z2] at a3
  refine ⟨?_, ?_, a3, ?_, by simp⟩
  · exact ((a1.alloc (by omega) _).alloc (by omega) _).more (by omega)
  · exact (a2.alloc (by omega) _).more (by omega)
  · exact (((Below.refl _ w).alloc (Nat.le_refl _) _).alloc (by omega) _).alloc (by omega) _
theorem sbk1 : sb [97, 10, 120, 10, 99, 10, 100, 10] = { data := #[97, 10, 120, 10, 99, 10, 100, 10] } := by decide +kernel
theorem sbk2 : sb [60, 60, 60, 60, 60, 60, 60, 10, 98, 10, 124, 124, 124, 124, 124, 124, 124, 10, 97, 10, 61, 61, 61, 61, 61, 61, 61, 10, 99, 10, 62, 62, 62, 62, 62, 62, 62, 10] = { data := #[60, 60, 60, 60, 60, 60, 60, 10, 98, 10, 124, 124, 124, 124, 124, 124, 124, 10, 97, 10, 61, 61, 61, 61, 61, 61, 61, 10, 99, 10, 62, 62, 62, 62, 62, 62, 62, 10] } := by decide +kernel
/-- the bytes of Merge's answer, as text -/
theorem MgRet.conv {l : List Ch} {w w' : World} {e : Ending} (h : MgRet l w e w') (z : List Int) (n : Nat) (c : Bool) (h1 : rend l = z ∧ clean l = c) (hn : z.length = n) :
    ∃ A C, e = .returned (.tuple #[.slice A n C, .bool c, .int .i64 0]) ∧ Hid (w'.ownsRow w.heap.size 5 1 (.slice A n C) n (bv z)) ∧ Hid (Below w.heap.size w w') := by
  subst hn
  obtain ⟨A, C, rfl, ho, hb⟩ := h
  rw [h1.1] at ho
  rw [h1.1, h1.2]
  exact ⟨A, C, rfl, Lib.hid ho, Lib.hid hb⟩

set_option maxRecDepth 100000 in
set_option maxHeartbeats 4000000 in
theorem known_any (w : World) : Calls Try.prog 10 #[] w fun e w' => e = .returned (.bool true) ∧ Below w.heap.size w w' := by
  have k1 := kc1
  have k2 := kc2
  have k3 := kc3
  have L1 := Lib.hid (lit3 w zA zB zC (by decide) (by decide) (by decide))
  have L2 := Lib.hid (fun w : World => lit3 w [97, 10] [98, 10] [99, 10] (by decide) (by decide) (by decide))
  go_enter Try.func10, Try.ntmps10
  go_wp2_with fail
  refine (merge_any (some ⟨w.heap.size, 0, none⟩) 6 6 zA (some ⟨w.heap.size + 1, 0, none⟩) 6 6 zB (some ⟨w.heap.size + 1 + 1, 0, none⟩) 8 8 zC _ (by have := L1.out.1; rw [← L1.out.2.2.2.2] at this; exact this) (by have := L1.out.2.1; rw [← L1.out.2.2.2.2] at this; exact this) (by have := L1.out.2.2.1; rw [← L1.out.2.2.2.2] at this; exact this) (byte_of (by decide)) (byte_of (by decide)) (byte_of (by decide)) (by omega) (by omega) (by omega) (Nat.le_trans (spl_lines _) (by decide)) (Nat.le_trans (spl_lines _) (by decide)) (Nat.le_trans (spl_lines _) (by decide))).mono ?_
  rintro e w1 hr
  obtain ⟨A1, C1, rfl, HO1, HB1⟩ := hr.conv _ 8 _ kn1 rfl
  go_wp2_with fail
  refine (merge_any (some ⟨w1.heap.size, 0, none⟩) 2 2 [97, 10] (some ⟨w1.heap.size + 1, 0, none⟩) 2 2 [98, 10] (some ⟨w1.heap.size + 1 + 1, 0, none⟩) 2 2 [99, 10] _ (by have := (L2.out w1).1; rw [← (L2.out w1).2.2.2.2] at this; exact this) (by have := (L2.out w1).2.1; rw [← (L2.out w1).2.2.2.2] at this; exact this) (by have := (L2.out w1).2.2.1; rw [← (L2.out w1).2.2.2.2] at this; exact this) (byte_of (by decide)) (byte_of (by decide)) (byte_of (by decide)) (by omega) (by omega) (by omega) (Nat.le_trans (spl_lines _) (by decide)) (Nat.le_trans (spl_lines _) (by decide)) (Nat.le_trans (spl_lines _) (by decide))).mono ?_
  rintro e w2 hr
  obtain ⟨A2, C2, rfl, HO2, HB2⟩ := hr.conv _ 38 _ kn2 rfl
  have hb1 := HB1.out
  have hb2 := HB2.out
  have hl1 := (L1.out).2.2.2.1
  have hl2 := (L2.out w1).2.2.2.1
  have s1 := hb1.size
  have s2 := hb2.size
  have t1 := (L1.out).2.2.2.2
  have t2 := (L2.out w1).2.2.2.2
  have hbm : Below w1.heap.size _ w2 := hb2.mono (by simp; omega)
  have cv1 := conv_row (own_keep HO1.out (hl2.trans hbm)) (by decide)
  have cv2 := conv_row HO2.out (by decide)
  rw [sbk1] at cv1
  rw [sbk2] at cv2
  have HF := Lib.hid ((hl1.trans (hb1.mono (by simp; omega))).trans ((hl2.trans hbm).mono (by simp at s1; omega)))
  clear hb1 hb2 hl1 hl2 s1 s2 t1 t2 hbm HO1 HO2 HB1 HB2 k1 k2 k3 L1 L2
  go_wp2_with fail
  go_ret
  exact ⟨rfl, HF.out⟩
end Go.Proofs.Ytlaneilmffdahaa.Mg
