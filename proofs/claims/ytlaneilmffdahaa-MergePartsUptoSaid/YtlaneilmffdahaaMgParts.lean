/- The walk of MergeParts. -/
import Derived.Test.YtlaneilmffdahaaMgKnown
import Derived.Test.YtlaneilmffdahaaMgSides
namespace Go.Proofs.Ytlaneilmffdahaa.Mg
open Go.RowKit Go.Proofs.Ytlaneilmffdahaa.Ln
set_option linter.unusedVariables false

/-- the walk's state: each side's lines so far, in rows of one's own -/
structure Pt (B : Nat) (w0 : World) (A1 : Option Addr) (C1 : Nat) (x1 : List ByteArray) (A2 : Option Addr) (C2 : Nat) (x2 : List ByteArray) (A3 : Option Addr) (C3 : Nat) (x3 : List ByteArray) (wr : World) : Prop where
  rows : Rows B wr [(.slice A1 x1.length C1, x1), (.slice A2 x2.length C2, x2), (.slice A3 x3.length C3, x3)]
  bel : Below B w0 wr
section
variable {B : Nat} {w0 wr w' : World} {A1 A2 A3 A' : Option Addr} {C1 C2 C3 C' : Nat} {x1 x2 x3 y : List ByteArray}
theorem Pt.belowW (h : Pt B w0 A1 C1 x1 A2 C2 x2 A3 C3 x3 wr) (hB : B ≤ wr.heap.size) (hb : Below wr.heap.size wr w') : Pt B w0 A1 C1 x1 A2 C2 x2 A3 C3 x3 w' := ⟨h.rows.belowW hb, h.bel.trans (hb.mono hB)⟩
theorem Pt.one (h : Pt B w0 A1 C1 x1 A2 C2 x2 A3 C3 x3 wr) : wr.ownsRow B 9 1 (.slice A1 x1.length C1) x1.length (sv x1) := h.rows.own (_, x1) (List.mem_cons_self ..)
theorem Pt.two (h : Pt B w0 A1 C1 x1 A2 C2 x2 A3 C3 x3 wr) : wr.ownsRow B 9 1 (.slice A2 x2.length C2) x2.length (sv x2) := h.rows.own (_, x2) (List.mem_cons_of_mem _ (List.mem_cons_self ..))
theorem Pt.three (h : Pt B w0 A1 C1 x1 A2 C2 x2 A3 C3 x3 wr) : wr.ownsRow B 9 1 (.slice A3 x3.length C3) x3.length (sv x3) := h.rows.own (_, x3) (List.mem_cons_of_mem _ (List.mem_cons_of_mem _ (List.mem_cons_self ..)))
theorem Pt.go1 (h : Pt B w0 A1 C1 x1 A2 C2 x2 A3 C3 x3 wr) (hB : B ≤ wr.heap.size) (ho : w'.ownsRow B 9 1 (.slice A' y.length C') y.length (sv y)) (hg : wr.grownBy w' (Value.slice A1 x1.length C1).ownBlock) (hs : Stays wr (.slice A1 x1.length C1) (.slice A' y.length C')) : Pt B w0 A' C' y A2 C2 x2 A3 C3 x3 w' :=
  ⟨h.rows.grow (p := []) ho hg hs, h.bel.trans (below_grown hB h.one hg)⟩
theorem Pt.go2 (h : Pt B w0 A1 C1 x1 A2 C2 x2 A3 C3 x3 wr) (hB : B ≤ wr.heap.size) (ho : w'.ownsRow B 9 1 (.slice A' y.length C') y.length (sv y)) (hg : wr.grownBy w' (Value.slice A2 x2.length C2).ownBlock) (hs : Stays wr (.slice A2 x2.length C2) (.slice A' y.length C')) : Pt B w0 A1 C1 x1 A' C' y A3 C3 x3 w' :=
  ⟨h.rows.grow (p := [(.slice A1 x1.length C1, x1)]) ho hg hs, h.bel.trans (below_grown hB h.two hg)⟩
theorem Pt.go3 (h : Pt B w0 A1 C1 x1 A2 C2 x2 A3 C3 x3 wr) (hB : B ≤ wr.heap.size) (ho : w'.ownsRow B 9 1 (.slice A' y.length C') y.length (sv y)) (hg : wr.grownBy w' (Value.slice A3 x3.length C3).ownBlock) (hs : Stays wr (.slice A3 x3.length C3) (.slice A' y.length C')) : Pt B w0 A1 C1 x1 A2 C2 x2 A' C' y w' :=
  ⟨h.rows.grow (p := [(.slice A1 x1.length C1, x1), (.slice A2 x2.length C2, x2)]) ho hg hs, h.bel.trans (below_grown hB h.three hg)⟩
end
theorem take_l (l : List Ch) (k : Nat) (h : k < l.length) : lb (l.take (k + 1)) = lb (l.take k) ++ l[k].b ∧ lo (l.take (k + 1)) = lo (l.take k) ++ l[k].o ∧ lt (l.take (k + 1)) = lt (l.take k) ++ l[k].t := by
  have e : l.take (k + 1) = l.take k ++ [l[k]] := List.take_succ_eq_append_getElem h
  refine ⟨?_, ?_, ?_⟩ <;> simp only [lb, lo, lt, e, List.flatMap_append, List.flatMap_cons, List.flatMap_nil, List.append_nil]
theorem lines_le (l : List Ch) : (lb l).length ≤ linesC l ∧ (lo l).length ≤ linesC l ∧ (lt l).length ≤ linesC l := by
  induction l with
  | nil => simp [lb, lo, lt, linesC]
  | cons c l ih =>
    have e : linesC (c :: l) = c.b.length + c.o.length + c.t.length + linesC l := by simp [linesC]
    have e1 : lb (c :: l) = c.b ++ lb l := rfl
    have e2 : lo (c :: l) = c.o ++ lo l := rfl
    have e3 : lt (c :: l) = c.t ++ lt l := rfl
    rw [e, e1, e2, e3]
    simp only [List.length_append]
    omega
theorem same_bool (B1 B2 : Nat) (a : Option Addr) (l c : Nat) (b : Option Addr) (m cb : Nat) (ss tt : List ByteArray) (w : World) (h : Rd w B1 a l c (sv ss)) (h2 : Rd w B2 b m cb (sv tt)) (f : Bool) (hf : f = decide (ss = tt)) :
    ∀ d, Calls Try.prog 26 #[.slice a l c, .slice b m cb] (w.drewN d) fun e w' => e = .returned (.bool f) ∧ ∃ n, w' = (w.drewN d).drewN n := fun d => by
  subst hf
  exact rsame_any B1 B2 a l c b m cb ss tt (w.drewN d) (h.drewN d) (h2.drewN d)
theorem linesC_take (l : List Ch) (k : Nat) (h : k < l.length) : linesC (l.take k) + (l[k].b.length + l[k].o.length + l[k].t.length) ≤ linesC l := by
  have e2 : linesC l = linesC (l.take (k + 1)) + linesC (l.drop (k + 1)) := by conv => lhs; rw [← List.take_append_drop (k + 1) l, linesC_append]
  rw [List.take_succ_eq_append_getElem h, linesC_append, linesC_one] at e2
  omega

set_option maxRecDepth 100000 in
set_option maxHeartbeats 8000000 in
theorem walk_parts (w : World) (a0 : Option Addr) (len0 cap0 : Nat) (s0 : List ByteArray) (a1 : Option Addr) (len1 cap1 : Nat) (s1 : List ByteArray) (a2 : Option Addr) (len2 cap2 : Nat) (s2 : List ByteArray)
    (r0 : Rd w w.heap.size a0 len0 cap0 (sv s0)) (r1 : Rd w w.heap.size a1 len1 cap1 (sv s1)) (r2 : Rd w w.heap.size a2 len2 cap2 (sv s2))
    (q0 : ∀ s ∈ s0, s.size ≤ 140737488351232) (q1 : ∀ s ∈ s1, s.size ≤ 140737488351232) (q2 : ∀ s ∈ s2, s.size ≤ 140737488351232) :
    Calls Try.prog 7 #[.slice a0 len0 cap0, .slice a1 len1 cap1, .slice a2 len2 cap2] w fun e w' => e = .returned (.bool true) ∧ Below w.heap.size w w' := by
  have HK := Lib.hid (known_any w)
  have RR := Lib.hid (fun (wx : World) (hb : Below w.heap.size w wx) => (show Rd wx wx.heap.size a0 len0 cap0 (sv s0) ∧ Rd wx wx.heap.size a1 len1 cap1 (sv s1) ∧ Rd wx wx.heap.size a2 len2 cap2 (sv s2) from ⟨(r0.below hb).more hb.size, (r1.below hb).more hb.size, (r2.below hb).more hb.size⟩))
  have M : Hid ((∀ s ∈ s0, s.size ≤ maxLen) ∧ (∀ s ∈ s1, s.size ≤ maxLen) ∧ ∀ s ∈ s2, s.size ≤ maxLen) := Lib.hid
    ⟨fun s hs => Nat.le_trans (q0 s hs) (by unfold maxLen; omega), fun s hs => Nat.le_trans (q1 s hs) (by unfold maxLen; omega), fun s hs => Nat.le_trans (q2 s hs) (by unfold maxLen; omega)⟩
  have Q := Lib.hid (And.intro q0 (And.intro q1 q2))
  have E0 := Lib.hid (rd_len r0)
  have E1 := Lib.hid (rd_len r1)
  have E2 := Lib.hid (rd_len r2)
  clear r0 r1 r2 q0 q1 q2
  go_enter Try.func7, Try.ntmps7
  go_wp2_with fail
  refine HK.out.mono ?_
  rintro e w1 ⟨rfl, hb1⟩
  have HB1 := Lib.hid hb1
  have hz1 := HB1.out.size
  clear HK hb1
  go_wp2_with fail
  refine (few3_any w1.heap.size a0 len0 cap0 s0 a1 len1 cap1 s1 a2 len2 cap2 s2 w1 (RR.out w1 HB1.out).1 (RR.out w1 HB1.out).2.1 (RR.out w1 HB1.out).2.2 (Nat.le_refl _) Q.out.1 Q.out.2.1 Q.out.2.2).mono ?_
  rintro e w2 ⟨f, rfl, hf, hb2⟩
  have HB2 := Lib.hid (HB1.out.trans (hb2.mono hz1))
  have hz2 := HB2.out.size
  clear hb2 HB1 hz1 Q
  cases f
  · clear hf
    go_wp2
    go_ret
    exact ⟨rfl, HB2.out⟩
  obtain ⟨⟨n0, y0⟩, ⟨n1, y1⟩, ⟨n2, y2⟩⟩ := hf rfl
  have hl1 := linesC_chunks s0 s1 s2
  rw [E0.out, E1.out, E2.out] at hl1
  have hk1 := len_lines _ (chunks_kind s0 s1 s2)
  have HKd := Lib.hid (chunks_kind s0 s1 s2)
  have HNo := Lib.hid (chunks_noTwo s0 s1 s2)
  have HLn := Lib.hid (chunks_lines s0 s1 s2)
  clear hf
  go_wp2_with fail
  refine (chunks_any a0 len0 cap0 s0 a1 len1 cap1 s1 a2 len2 cap2 s2 w2 (RR.out w2 HB2.out).1 (RR.out w2 HB2.out).2.1 (RR.out w2 HB2.out).2.2 M.out.1 M.out.2.1 M.out.2.2 (by omega) (by omega) (by omega)).mono ?_
  generalize chunks s0 s1 s2 = l at *
  rintro e w3 hr
  obtain ⟨n, hn⟩ : ∃ n, n = l.length := ⟨_, rfl⟩
  obtain ⟨A3, C3, rfl, HR3, hb3⟩ := hr.rdn (by omega) n hn.symm
  have HN := Lib.hid hn
  have hn1 : n ≤ 1000 := by omega
  have HLl := Lib.hid (show linesC l ≤ 1000 by omega)
  have HB3 := Lib.hid (HB2.out.trans (hb3.out.mono hz2))
  have hz3 := HB3.out.size
  have q1 := HR3.out.cap
  have q2 := HR3.out.max
  clear hr hb3 HB2 hz2 hn hl1 hk1 M
  go_wp2_with fail
  go_loopw [9, 10, 11, 12] (fun s9 s10 s11 s12 wr => ∃ (k : Nat) (A4 A5 A6 : Option Addr) (C4 C5 C6 : Nat), k ≤ n ∧ s12 = .int .i64 k ∧ s9 = .slice A4 (lb (l.take k)).length C4 ∧ s10 = .slice A5 (lo (l.take k)).length C5 ∧ s11 = .slice A6 (lt (l.take k)).length C6 ∧ Hid (Pt w3.heap.size w3 A4 C4 (lb (l.take k)) A5 C5 (lo (l.take k)) A6 C6 (lt (l.take k)) wr)) (fun _ _ _ s12 _ => n - (intOf s12).toNat)
  case atStart =>
    have hn : w3.ownsRow w3.heap.size 9 1 (.slice none 0 0) 0 (sv []) := ⟨rfl, Or.inl ⟨rfl, rfl⟩⟩
    refine ⟨0, none, none, none, 0, 0, 0, Nat.zero_le _, rfl, rfl, rfl, rfl, Lib.hid ⟨⟨fun r hr => ?_, ?_⟩, Below.refl _ _⟩⟩
    · simp only [List.mem_cons, List.not_mem_nil, or_false] at hr
      rcases hr with rfl | rfl | rfl <;> exact hn
    · exact List.pairwise_cons.2 ⟨fun s _ => nil_apart _, List.pairwise_cons.2 ⟨fun s _ => nil_apart _, List.pairwise_singleton _ _⟩⟩
  case round =>
    obtain ⟨k, A4, A5, A6, C4, C5, C6, hk, rfl, rfl, rfl, rfl, HP⟩ := hrel
    by_cases hlt : k < n
    · have hkl : k < l.length := by rw [← HN.out]; exact hlt
      have hsz := HP.out.bel.size
      obtain ⟨g, o, vb, vo, vt, rfl, hg, c0, c1, c2, c3, s0', s1', s2'⟩ := (HR3.out.below HP.out.bel).cell k hkl
      obtain ⟨Ab, nb, Cb, rfl, rb⟩ := s0'
      obtain ⟨Ao, no, Co, rfl, ro⟩ := s1'
      obtain ⟨At, nt, Ct, rfl, rt⟩ := s2'
      have eb := rd_len rb
      have eo := rd_len ro
      have et := rd_len rt
      obtain ⟨u1, u2, u3⟩ := take_l l k hkl
      have hle := linesC_take l k hkl
      obtain ⟨v1, v2, v3⟩ := lines_le (l.take k)
      have hll := HLl.out
      have hkd := HKd.out l[k] (List.getElem_mem hkl)
      have hprev : ∀ (h0 : 0 < k), l[k].k = 0 → (l[k - 1]'(by omega)).k ≠ 0 := fun h0 he hp => HNo.out (k - 1) (l[k - 1]'(by omega)) l[k] (List.getElem?_eq_getElem _) (by rw [show k - 1 + 1 = k by omega]; exact List.getElem?_eq_getElem hkl) ⟨hp, he⟩
      have hcprev : 0 < k → ∃ kp : Int, wr.cell? ⟨g, o + (k - 1) * 4, none⟩ = some (.int .i64 kp) ∧ (l[k].k = 0 → kp ≠ 0) := fun h0 => by
        obtain ⟨g', o', _, _, _, ha', _, d0, _⟩ := (HR3.out.below HP.out.bel).cell (k - 1) (by omega)
        simp only [Option.some.injEq, Addr.mk.injEq, and_true] at ha'
        obtain ⟨rfl, rfl⟩ := ha'
        exact ⟨_, d0, hprev h0⟩
      have HCp := Lib.hid hcprev
      obtain ⟨kd, b, oo, t, hc⟩ : ∃ kd b oo t, l[k] = (⟨kd, b, oo, t⟩ : Ch) := ⟨l[k].k, l[k].b, l[k].o, l[k].t, rfl⟩
      rw [hc] at c0 rb ro rt eb eo et u1 u2 u3 hle hkd HCp
      simp only at c0 rb ro rt eb eo et u1 u2 u3 hle HCp
      have HKc := Lib.hid (kind_cases hkd)
      have hpos := hkd.2
      simp only at HKc hpos
      have HU := Lib.hid (And.intro u1 (And.intro u2 u3))
      have hba := (Below.refl w3.heap.size wr).alloc hsz (.cells #[.int .i64 kd, .slice Ab nb Cb, .slice Ao no Co, .slice At nt Ct] 37)
      have dP := Lib.hid (HP.out.belowW hsz ((Below.refl _ wr).alloc (Nat.le_refl _) (.cells #[.int .i64 kd, .slice Ab nb Cb, .slice Ao no Co, .slice At nt Ct] 37)))
      have dX := Lib.hid (heap_alloc_new wr (.cells #[.int .i64 kd, .slice Ab nb Cb, .slice Ao no Co, .slice At nt Ct] 37))
      have RB := Lib.hid (rb.below hba)
      have RO := Lib.hid (ro.below hba)
      have RT := Lib.hid (rt.below hba)
      have hgl : g < w3.heap.size := hg
      have HCq : Hid (0 < k → ∃ kp : Int, (wr.alloc (.cells #[.int .i64 kd, .slice Ab nb Cb, .slice Ao no Co, .slice At nt Ct] 37)).cell? ⟨g, o + (k - 1) * 4, none⟩ = some (.int .i64 kp) ∧ (kd = 0 → kp ≠ 0)) := Lib.hid fun h0 => by
        obtain ⟨kp, d1, d2⟩ := HCp.out h0
        exact ⟨kp, (hba.cell (p := ⟨g, o + (k - 1) * 4, none⟩) hgl).trans d1, d2⟩
      have hwa : w3.heap.size ≤ (wr.alloc (.cells #[.int .i64 kd, .slice Ab nb Cb, .slice Ao no Co, .slice At nt Ct] 37)).heap.size := by simp; omega
      have hs1 : (lb (l.take k)).length + nb ≤ 1000 := by omega
      have hs2 : (lo (l.take k)).length + no ≤ 1000 := by omega
      have hs3 : (lt (l.take k)).length + nt ≤ 1000 := by omega
      have hpos2 : 0 < nb + no + nt := by omega
      clear rb ro rt eb eo et u1 u2 u3 hle v1 v2 v3 hll hkd hprev hcprev hc hpos HCp hba
      generalize lb (l.take k) = x1 at *
      generalize lo (l.take k) = x2 at *
      generalize lt (l.take k) = x3 at *
      go_wp2_with fail
      generalize wr.heap.size = X at *
      generalize wr.alloc (.cells #[.int .i64 kd, .slice Ab nb Cb, .slice Ao no Co, .slice At nt Ct] 37) = wo at *
      have eP := Lib.hid (dP.out.belowW hwa (below_drewN (Below.refl _ _) 1))
      have dC := Lib.hid (four_cells (show wo.drew.heap[X]? = _ from dX.out))
      have dX1 : Hid (wo.drew.heap[X]? = some (.cells #[.int .i64 kd, .slice Ab nb Cb, .slice Ao no Co, .slice At nt Ct] 37 (0, 0))) := dX
      have hwd : w3.heap.size ≤ wo.drew.heap.size := hwa
      have dB := Lib.hid (below_drewN (Below.refl w3.heap.size wo) 1)
      refine wp_region_noPanic ?_
      refine wp_region_held_drew (S := (fun wS => wS.cell? ⟨X, 1, none⟩ = some (.slice Ab nb Cb) ∧ wS.cell? ⟨X, 2, none⟩ = some (.slice Ao no Co) ∧ wS.cell? ⟨X, 3, none⟩ = some (.slice At nt Ct))) (by kernel_rfl) ?_ (fun hHeld => ?_)
      · ((try dsimp only); exact dC.out.2)
      refine wpAnyH_take (i := 0) (oi := { dst := some 44, op := Op.move (Operand.tmp 9), type := 22, pos := "law.go:139", after := #[], guard := none }) (v := ?_) rfl (by kernel_rfl) (by kernel_rfl) (by kernel_rfl) (fun _ _ _ h => h) (Or.inl ⟨by rfl, ?_⟩) (by assumption) ?_
      rotate_left 1
      · ((intro w hSw; (try dsimp only at hSw); go_simp) <;> with_reducible rfl)
      (try simp only [Act.put, List.setIfInBounds_toArray, List.set_cons_zero, List.set_cons_succ])
      refine wpAnyH_take (i := 1) (oi := { dst := some 45, op := Op.fieldAddr 37 (Operand.tmp 13) 1, type := 0, pos := "law.go:139", after := #[], guard := none }) (v := ?_) rfl (by kernel_rfl) (by kernel_rfl) (by kernel_rfl) (fun _ _ _ h => h) (Or.inl ⟨by rfl, ?_⟩) (by assumption) ?_
      rotate_left 1
      · ((intro w hSw; (try dsimp only at hSw); go_simp) <;> with_reducible rfl)
      (try simp only [Act.put, List.setIfInBounds_toArray, List.set_cons_zero, List.set_cons_succ])
      refine wpAnyH_take (i := 2) (oi := { dst := some 46, op := Op.load 22 (Operand.tmp 45), type := 22, pos := "law.go:139", after := #[{ on := 1, ground := Ground.data }], guard := none }) (v := ?_) rfl (by kernel_rfl) (by kernel_rfl) (by kernel_rfl) (fun _ _ _ h => h) (Or.inl ⟨by rfl, ?_⟩) (by assumption) ?_
      rotate_left 1
      · ((intro w hSw; (try dsimp only at hSw); go_simp) <;> with_reducible rfl)
      (try simp only [Act.put, List.setIfInBounds_toArray, List.set_cons_zero, List.set_cons_succ])
      refine wpAnyH_take (i := 4) (oi := { dst := some 48, op := Op.move (Operand.tmp 10), type := 22, pos := "law.go:139", after := #[], guard := none }) (v := ?_) rfl (by kernel_rfl) (by kernel_rfl) (by kernel_rfl) (fun _ _ _ h => h) (Or.inl ⟨by rfl, ?_⟩) (by assumption) ?_
      rotate_left 1
      · ((intro w hSw; (try dsimp only at hSw); go_simp) <;> with_reducible rfl)
      (try simp only [Act.put, List.setIfInBounds_toArray, List.set_cons_zero, List.set_cons_succ])
      refine wpAnyH_take (i := 5) (oi := { dst := some 49, op := Op.fieldAddr 37 (Operand.tmp 13) 2, type := 0, pos := "law.go:139", after := #[], guard := none }) (v := ?_) rfl (by kernel_rfl) (by kernel_rfl) (by kernel_rfl) (fun _ _ _ h => h) (Or.inl ⟨by rfl, ?_⟩) (by assumption) ?_
      rotate_left 1
      · ((intro w hSw; (try dsimp only at hSw); go_simp) <;> with_reducible rfl)
      (try simp only [Act.put, List.setIfInBounds_toArray, List.set_cons_zero, List.set_cons_succ])
      refine wpAnyH_take (i := 6) (oi := { dst := some 50, op := Op.load 22 (Operand.tmp 49), type := 22, pos := "law.go:139", after := #[{ on := 5, ground := Ground.data }], guard := none }) (v := ?_) rfl (by kernel_rfl) (by kernel_rfl) (by kernel_rfl) (fun _ _ _ h => h) (Or.inl ⟨by rfl, ?_⟩) (by assumption) ?_
      rotate_left 1
      · ((intro w hSw; (try dsimp only at hSw); go_simp) <;> with_reducible rfl)
      (try simp only [Act.put, List.setIfInBounds_toArray, List.set_cons_zero, List.set_cons_succ])
      refine wpAnyH_take (i := 8) (oi := { dst := some 52, op := Op.move (Operand.tmp 11), type := 22, pos := "law.go:139", after := #[], guard := none }) (v := ?_) rfl (by kernel_rfl) (by kernel_rfl) (by kernel_rfl) (fun _ _ _ h => h) (Or.inl ⟨by rfl, ?_⟩) (by assumption) ?_
      rotate_left 1
      · ((intro w hSw; (try dsimp only at hSw); go_simp) <;> with_reducible rfl)
      (try simp only [Act.put, List.setIfInBounds_toArray, List.set_cons_zero, List.set_cons_succ])
      refine wpAnyH_take (i := 9) (oi := { dst := some 53, op := Op.fieldAddr 37 (Operand.tmp 13) 3, type := 0, pos := "law.go:139", after := #[], guard := none }) (v := ?_) rfl (by kernel_rfl) (by kernel_rfl) (by kernel_rfl) (fun _ _ _ h => h) (Or.inl ⟨by rfl, ?_⟩) (by assumption) ?_
      rotate_left 1
      · ((intro w hSw; (try dsimp only at hSw); go_simp) <;> with_reducible rfl)
      (try simp only [Act.put, List.setIfInBounds_toArray, List.set_cons_zero, List.set_cons_succ])
      refine wpAnyH_take (i := 10) (oi := { dst := some 54, op := Op.load 22 (Operand.tmp 53), type := 22, pos := "law.go:139", after := #[{ on := 9, ground := Ground.data }], guard := none }) (v := ?_) rfl (by kernel_rfl) (by kernel_rfl) (by kernel_rfl) (fun _ _ _ h => h) (Or.inl ⟨by rfl, ?_⟩) (by assumption) ?_
      rotate_left 1
      · ((intro w hSw; (try dsimp only at hSw); go_simp) <;> with_reducible rfl)
      (try simp only [Act.put, List.setIfInBounds_toArray, List.set_cons_zero, List.set_cons_succ])
      refine wpAnyH_ready (rs := [3]) (by kernel_rfl) (by simp) ?_
      refine AllReadyH.cons (o := { dst := some 47, op := Op.call { callee := Callee.builtin Builtin.append, args := #[Operand.tmp 44, Operand.tmp 46], argTypes := #[22, 22] }, type := 22, pos := "law.go:139", after := #[{ on := 0, ground := Ground.data }, { on := 2, ground := Ground.data }], guard := none }) rfl (fun K hK => ?_) ?_
      · refine step_append_rd elS _ rfl (.tmp 44) (.tmp 46) rfl w3.heap.size _ x1.length (sv x1) rfl eP.out.one w3.heap.size Ab nb Cb (sv b) rfl (RB.out.below dB.out) (str_one b) (x1.length + nb) rfl (by omega) hwd ?_
        intro A7 C7 wA ho hg hs
        have l7 : x1.length + nb = (x1 ++ b).length := by rw [List.length_append, rd_len RB.out]
        have hk := (Kp.refl [9] _).grown eP.out.one hg (by simp)
        have dX2 := Lib.hid (hk.block _ _ _ _ dX1.out (by decide))
        have fP := Lib.hid (eP.out.go1 (y := x1 ++ b) (A' := A7) (C' := C7) hwd (by rw [← l7]; simpa [sv] using ho) hg (by rw [← l7]; exact hs))
        have fB := Lib.hid (dB.out.trans (below_grown hwd eP.out.one hg))
        have hwd2 := Nat.le_trans hwd hg.size
        have fC := Lib.hid (four_cells dX2.out)
        have L7 := Lib.hid l7
        clear ho hg hs hk l7 eP dB dC hwd dX1
        have eP := fP
        have dB := fB
        have dC := fC
        have dX1 := dX2
        have hwd := hwd2
        clear fP fB fC dX2 hwd2
        (try go_wp2_with fail)
        refine hK.out _ _ ?_ (fun hNew => ?_)
        · ((try dsimp only); exact dC.out.2)
        clear hK K hHeld
        have hHeld := hNew
        clear hNew
        (try simp only [Act.put, List.setIfInBounds_toArray, List.set_cons_zero, List.set_cons_succ])
        refine wpAnyH_ready (rs := [7]) (by kernel_rfl) (by simp) ?_
        refine AllReadyH.cons (o := { dst := some 51, op := Op.call { callee := Callee.builtin Builtin.append, args := #[Operand.tmp 48, Operand.tmp 50], argTypes := #[22, 22] }, type := 22, pos := "law.go:139", after := #[{ on := 4, ground := Ground.data }, { on := 6, ground := Ground.data }, { on := 3, ground := Ground.chain }], guard := none }) rfl (fun K hK => ?_) ?_
        · refine step_append_rd elS _ rfl (.tmp 48) (.tmp 50) rfl w3.heap.size _ x2.length (sv x2) rfl eP.out.two w3.heap.size Ao no Co (sv oo) rfl (RO.out.below dB.out) (str_one oo) (x2.length + no) rfl (by omega) hwd ?_
          intro A8 C8 wA ho hg hs
          have l7 : x2.length + no = (x2 ++ oo).length := by rw [List.length_append, rd_len RO.out]
          have hk := (Kp.refl [9] _).grown eP.out.two hg (by simp)
          have dX2 := Lib.hid (hk.block _ _ _ _ dX1.out (by decide))
          have fP := Lib.hid (eP.out.go2 (y := x2 ++ oo) (A' := A8) (C' := C8) hwd (by rw [← l7]; simpa [sv] using ho) hg (by rw [← l7]; exact hs))
          have fB := Lib.hid (dB.out.trans (below_grown hwd eP.out.two hg))
          have hwd2 := Nat.le_trans hwd hg.size
          have fC := Lib.hid (four_cells dX2.out)
          have L8 := Lib.hid l7
          clear ho hg hs hk l7 eP dB dC hwd dX1
          have eP := fP
          have dB := fB
          have dC := fC
          have dX1 := dX2
          have hwd := hwd2
          clear fP fB fC dX2 hwd2
          (try go_wp2_with fail)
          refine hK.out _ _ ?_ (fun hNew => ?_)
          · ((try dsimp only); exact dC.out.2)
          clear hK K hHeld
          have hHeld := hNew
          clear hNew
          (try simp only [Act.put, List.setIfInBounds_toArray, List.set_cons_zero, List.set_cons_succ])
          refine wpAnyH_ready (rs := [11]) (by kernel_rfl) (by simp) ?_
          refine AllReadyH.cons (o := { dst := some 55, op := Op.call { callee := Callee.builtin Builtin.append, args := #[Operand.tmp 52, Operand.tmp 54], argTypes := #[22, 22] }, type := 22, pos := "law.go:139", after := #[{ on := 8, ground := Ground.data }, { on := 10, ground := Ground.data }, { on := 7, ground := Ground.chain }], guard := none }) rfl (fun K hK => ?_) ?_
          · refine step_append_rd elS _ rfl (.tmp 52) (.tmp 54) rfl w3.heap.size _ x3.length (sv x3) rfl eP.out.three w3.heap.size At nt Ct (sv t) rfl (RT.out.below dB.out) (str_one t) (x3.length + nt) rfl (by omega) hwd ?_
            intro A9 C9 wA ho hg hs
            have l7 : x3.length + nt = (x3 ++ t).length := by rw [List.length_append, rd_len RT.out]
            have hk := (Kp.refl [9] _).grown eP.out.three hg (by simp)
            have dX2 := Lib.hid (hk.block _ _ _ _ dX1.out (by decide))
            have fP := Lib.hid (eP.out.go3 (y := x3 ++ t) (A' := A9) (C' := C9) hwd (by rw [← l7]; simpa [sv] using ho) hg (by rw [← l7]; exact hs))
            have fB := Lib.hid (dB.out.trans (below_grown hwd eP.out.three hg))
            have hwd2 := Nat.le_trans hwd hg.size
            have fC := Lib.hid (four_cells dX2.out)
            have L9 := Lib.hid l7
            clear ho hg hs hk l7 eP dB dC hwd dX1
            have eP := fP
            have dB := fB
            have dC := fC
            have dX1 := dX2
            have hwd := hwd2
            clear fP fB fC dX2 hwd2
            (try go_wp2_with fail)
            refine hK.out _ _ ?_ (fun hNew => ?_)
            · ((try dsimp only); exact dC.out.2)
            clear hK K hHeld
            have hHeld := hNew
            clear hNew
            (try simp only [Act.put, List.setIfInBounds_toArray, List.set_cons_zero, List.set_cons_succ])
            refine wpAnyH_take (i := 12) (oi := { dst := some 9, op := Op.assign (Operand.tmp 47), type := 22, pos := "law.go:139", after := #[{ on := 3, ground := Ground.data }, { on := 11, ground := Ground.chain }, { on := 0, ground := Ground.phase }, { on := 1, ground := Ground.phase }, { on := 2, ground := Ground.phase }, { on := 3, ground := Ground.phase }, { on := 4, ground := Ground.textOnly Departure.lateStores }, { on := 5, ground := Ground.textOnly Departure.lateStores }, { on := 6, ground := Ground.textOnly Departure.lateStores }, { on := 7, ground := Ground.textOnly Departure.lateStoresUnsure }, { on := 8, ground := Ground.textOnly Departure.lateStores }, { on := 9, ground := Ground.textOnly Departure.lateStores }, { on := 10, ground := Ground.textOnly Departure.lateStores }, { on := 11, ground := Ground.textOnly Departure.lateStoresUnsure }], guard := none }) (v := ?_) rfl (by kernel_rfl) (by kernel_rfl) (by kernel_rfl) (fun _ _ _ h => h) (Or.inl ⟨by rfl, ?_⟩) (by assumption) ?_
            rotate_left 1
            · ((intro w hSw; (try dsimp only at hSw); go_simp) <;> with_reducible rfl)
            (try simp only [Act.put, List.setIfInBounds_toArray, List.set_cons_zero, List.set_cons_succ])
            refine wpAnyH_take (i := 13) (oi := { dst := some 10, op := Op.assign (Operand.tmp 51), type := 22, pos := "law.go:139", after := #[{ on := 7, ground := Ground.data }, { on := 12, ground := Ground.chain }, { on := 0, ground := Ground.phase }, { on := 1, ground := Ground.phase }, { on := 2, ground := Ground.phase }, { on := 3, ground := Ground.phase }, { on := 4, ground := Ground.phase }, { on := 5, ground := Ground.phase }, { on := 6, ground := Ground.phase }, { on := 7, ground := Ground.phase }, { on := 8, ground := Ground.textOnly Departure.lateStores }, { on := 9, ground := Ground.textOnly Departure.lateStores }, { on := 10, ground := Ground.textOnly Departure.lateStores }, { on := 11, ground := Ground.textOnly Departure.lateStoresUnsure }, { on := 12, ground := Ground.phase }], guard := none }) (v := ?_) rfl (by kernel_rfl) (by kernel_rfl) (by kernel_rfl) (fun _ _ _ h => h) (Or.inl ⟨by rfl, ?_⟩) (by assumption) ?_
            rotate_left 1
            · ((intro w hSw; (try dsimp only at hSw); go_simp) <;> with_reducible rfl)
            (try simp only [Act.put, List.setIfInBounds_toArray, List.set_cons_zero, List.set_cons_succ])
            refine wpAnyH_take (i := 14) (oi := { dst := some 11, op := Op.assign (Operand.tmp 55), type := 22, pos := "law.go:139", after := #[{ on := 11, ground := Ground.data }, { on := 13, ground := Ground.chain }, { on := 0, ground := Ground.phase }, { on := 1, ground := Ground.phase }, { on := 2, ground := Ground.phase }, { on := 3, ground := Ground.phase }, { on := 4, ground := Ground.phase }, { on := 5, ground := Ground.phase }, { on := 6, ground := Ground.phase }, { on := 7, ground := Ground.phase }, { on := 8, ground := Ground.phase }, { on := 9, ground := Ground.phase }, { on := 10, ground := Ground.phase }, { on := 11, ground := Ground.phase }, { on := 12, ground := Ground.phase }, { on := 13, ground := Ground.phase }], guard := none }) (v := ?_) rfl (by kernel_rfl) (by kernel_rfl) (by kernel_rfl) (fun _ _ _ h => h) (Or.inl ⟨by rfl, ?_⟩) (by assumption) ?_
            rotate_left 1
            · ((intro w hSw; (try dsimp only at hSw); go_simp) <;> with_reducible rfl)
            (try simp only [Act.put, List.setIfInBounds_toArray, List.set_cons_zero, List.set_cons_succ])
            refine wpAnyH_done (by kernel_rfl) ?_ _
            refine NoPanic.normal ?_
            clear hHeld
            obtain ⟨f1, hf1⟩ : ∃ f, f = decide (oo = b) := ⟨_, rfl⟩
            obtain ⟨f2, hf2⟩ : ∃ f, f = decide (t = b) := ⟨_, rfl⟩
            obtain ⟨f3, hf3⟩ : ∃ f, f = decide (oo = t) := ⟨_, rfl⟩
            have SA := Lib.hid (same_bool w3.heap.size w3.heap.size Ao no Co Ab nb Cb oo b _ (RO.out.below dB.out) (RB.out.below dB.out) f1 hf1)
            have SB := Lib.hid (same_bool w3.heap.size w3.heap.size At nt Ct Ab nb Cb t b _ (RT.out.below dB.out) (RB.out.below dB.out) f2 hf2)
            have SC := Lib.hid (same_bool w3.heap.size w3.heap.size Ao no Co At nt Ct oo t _ (RO.out.below dB.out) (RT.out.below dB.out) f3 hf3)
            have HF1 := Lib.hid hf1
            have HF2 := Lib.hid hf2
            have HF3 := Lib.hid hf3
            have HCr := Lib.hid (fun (h0 : 0 < k) => (by
              obtain ⟨kp, d1, d2⟩ := HCq.out h0
              exact ⟨kp, (dB.out.cell (p := ⟨g, o + (k - 1) * 4, none⟩) hgl).trans d1, d2⟩ : ∃ kp : Int, wA.cell? ⟨g, o + (k - 1) * 4, none⟩ = some (.int .i64 kp) ∧ (kd = 0 → kp ≠ 0)))
            obtain ⟨y0, y1, y2, y3⟩ := four_cells dX1.out
            have hz0 : ((nb : Int) + (no : Int) + (nt : Int) == 0) = false := by simp; omega
            clear hf1 hf2 hf3 dC HCq
            go_wp2_with fail
            go_quiet ((go_at_call 26; first | (with_reducible exact Calls.quiet_of (SA.out _)) | (with_reducible exact Calls.quiet_of (SB.out _)) | (with_reducible exact Calls.quiet_of (SC.out _))))
            have HP2 := Lib.hid (eP.out.belowW hwd (below_drewN (Below.refl _ _) nq))
            have HCs := Lib.hid (fun h0 => HCr.out h0)
            have y0' : (wA.drewN nq).cell? ⟨X, 0, none⟩ = some (.int .i64 kd) := y0
            have y1' : (wA.drewN nq).cell? ⟨X, 1, none⟩ = some (.slice Ab nb Cb) := y1
            have y2' : (wA.drewN nq).cell? ⟨X, 2, none⟩ = some (.slice Ao no Co) := y2
            have y3' : (wA.drewN nq).cell? ⟨X, 3, none⟩ = some (.slice At nt Ct) := y3
            have HCt : Hid (0 < k → ∃ kp : Int, (wA.drewN nq).cell? ⟨g, o + (k - 1) * 4, none⟩ = some (.int .i64 kp) ∧ (kd = 0 → kp ≠ 0)) := Lib.hid (fun h0 => HCr.out h0)
            clear y0 y1 y2 y3 HCr HCs SA SB SC eP dB dX1
            generalize wA.drewN nq = wD at *
            rcases HKc.out with ⟨h, e1, e2⟩ | ⟨h, e1, e2⟩ | ⟨h, e1, e2, e3⟩ | ⟨h, e1, e2, e3⟩ | ⟨h, e1, e2, e3⟩
            · obtain rfl : f1 = true := by rw [HF1.out]; simp [e1]
              obtain rfl : f2 = true := by rw [HF2.out]; simp [e1, e2]
              obtain rfl : f3 = true := by rw [HF3.out]; simp [e2]
              subst h
              clear e1 e2 HKc HF1 HF2 HF3
              by_cases h0 : k = 0
              · have hk0 : ((k : Int) == 0) = true := by simp [h0]
                clear h0 HCt
                go_wp2_with fail
                go_roundw
                case rel =>
                  refine ⟨k + 1, A7, A8, A9, C7, C8, C9, by omega, by go_num, ?_, ?_, ?_, ?_⟩
                  · rw [HU.out.1, ← L7.out]
                  · rw [HU.out.2.1, ← L8.out]
                  · rw [HU.out.2.2, ← L9.out]
                  · rw [HU.out.1, HU.out.2.1, HU.out.2.2]; exact HP2
                case measure => simp [intOf]; omega
              · obtain ⟨kp, d1, d2⟩ := HCt.out (by omega)
                have hkp : (kp != 0) = true := by simpa using d2 rfl
                have hk0 : ((k : Int) == 0) = false := by simp; omega
                have t1 : (1 : Int) ≤ (k : Int) := by omega
                have t2 : (0 : Int) ≤ (k : Int) - 1 := by omega
                have t3 : ((k : Int) - 1).toNat = k - 1 := by omega
                have t4 : (k : Int) - 1 < (n : Int) := by omega
                have t5 : k - 1 < n := by omega
                clear h0 HCt d2
                go_wp2_with fail
                go_roundw
                case rel =>
                  refine ⟨k + 1, A7, A8, A9, C7, C8, C9, by omega, by go_num, ?_, ?_, ?_, ?_⟩
                  · rw [HU.out.1, ← L7.out]
                  · rw [HU.out.2.1, ← L8.out]
                  · rw [HU.out.2.2, ← L9.out]
                  · rw [HU.out.1, HU.out.2.1, HU.out.2.2]; exact HP2
                case measure => simp [intOf]; omega
            · obtain rfl : f1 = false := by rw [HF1.out]; simpa using fun h => e1 h.symm
              obtain rfl : f3 = true := by rw [HF3.out]; simp [e2]
              subst h
              clear e1 e2 HKc HF1 HF2 HF3 HCt
              go_wp2_with fail
              go_roundw
              case rel =>
                refine ⟨k + 1, A7, A8, A9, C7, C8, C9, by omega, by go_num, ?_, ?_, ?_, ?_⟩
                · rw [HU.out.1, ← L7.out]
                · rw [HU.out.2.1, ← L8.out]
                · rw [HU.out.2.2, ← L9.out]
                · rw [HU.out.1, HU.out.2.1, HU.out.2.2]; exact HP2
              case measure => simp [intOf]; omega
            · obtain rfl : f1 = false := by rw [HF1.out]; simpa using fun h => e2 h.symm
              obtain rfl : f2 = true := by rw [HF2.out]; simp [e1]
              subst h
              clear e1 e2 e3 HKc HF1 HF2 HF3 HCt
              go_wp2_with fail
              go_roundw
              case rel =>
                refine ⟨k + 1, A7, A8, A9, C7, C8, C9, by omega, by go_num, ?_, ?_, ?_, ?_⟩
                · rw [HU.out.1, ← L7.out]
                · rw [HU.out.2.1, ← L8.out]
                · rw [HU.out.2.2, ← L9.out]
                · rw [HU.out.1, HU.out.2.1, HU.out.2.2]; exact HP2
              case measure => simp [intOf]; omega
            · obtain rfl : f1 = true := by rw [HF1.out]; simp [e1]
              obtain rfl : f2 = false := by rw [HF2.out]; simpa using fun h => e2 h.symm
              subst h
              clear e1 e2 e3 HKc HF1 HF2 HF3 HCt
              go_wp2_with fail
              go_roundw
              case rel =>
                refine ⟨k + 1, A7, A8, A9, C7, C8, C9, by omega, by go_num, ?_, ?_, ?_, ?_⟩
                · rw [HU.out.1, ← L7.out]
                · rw [HU.out.2.1, ← L8.out]
                · rw [HU.out.2.2, ← L9.out]
                · rw [HU.out.1, HU.out.2.1, HU.out.2.2]; exact HP2
              case measure => simp [intOf]; omega
            · obtain rfl : f1 = false := by rw [HF1.out]; simpa using fun h => e1 h.symm
              obtain rfl : f2 = false := by rw [HF2.out]; simpa using fun h => e2 h.symm
              obtain rfl : f3 = false := by rw [HF3.out]; simpa using e3
              subst h
              clear e1 e2 e3 HKc HF1 HF2 HF3 HCt
              go_wp2_with fail
              go_roundw
              case rel =>
                refine ⟨k + 1, A7, A8, A9, C7, C8, C9, by omega, by go_num, ?_, ?_, ?_, ?_⟩
                · rw [HU.out.1, ← L7.out]
                · rw [HU.out.2.1, ← L8.out]
                · rw [HU.out.2.2, ← L9.out]
                · rw [HU.out.1, HU.out.2.1, HU.out.2.2]; exact HP2
              case measure => simp [intOf]; omega
          exact AllReadyH.nil
        exact AllReadyH.nil
      exact AllReadyH.nil
    · have e : k = l.length := by rw [← HN.out]; omega
      have HE := Lib.hid (show lb (l.take k) = s0 ∧ lo (l.take k) = s1 ∧ lt (l.take k) = s2 by rw [e, List.take_length]; exact HLn.out)
      have hsz := HP.out.bel.size
      have o1 := HP.out.one
      have o2 := HP.out.two
      have o3 := HP.out.three
      rw [HE.out.1] at o1 ⊢
      rw [HE.out.2.1] at o2 ⊢
      rw [HE.out.2.2] at o3 ⊢
      have HBr := Lib.hid (HB3.out.trans (HP.out.bel.mono hz3))
      have hbz := HBr.out.size
      have S1 := Lib.hid (same_bool wr.heap.size wr.heap.size A4 s0.length C4 a0 len0 cap0 s0 s0 wr (Rd.of_own o1 (by rw [E0.out]; omega)).1 (RR.out wr HBr.out).1 true (by simp))
      have S2 := Lib.hid (same_bool wr.heap.size wr.heap.size A5 s1.length C5 a1 len1 cap1 s1 s1 wr (Rd.of_own o2 (by rw [E1.out]; omega)).1 (RR.out wr HBr.out).2.1 true (by simp))
      have S3 := Lib.hid (same_bool wr.heap.size wr.heap.size A6 s2.length C6 a2 len2 cap2 s2 s2 wr (Rd.of_own o3 (by rw [E2.out]; omega)).1 (RR.out wr HBr.out).2.2 true (by simp))
      clear e o1 o2 o3 HP
      go_wp2_with fail
      refine (S1.out 0).mono ?_
      rintro e wx ⟨rfl, d1, rfl⟩
      go_wp2_with fail
      refine (S2.out _).mono ?_
      rintro e wx ⟨rfl, d2, rfl⟩
      go_wp2_with fail
      refine (S3.out _).mono ?_
      rintro e wx ⟨rfl, d3, rfl⟩
      go_wp2_with fail
      go_ret
      exact ⟨rfl, below_drewN HBr.out _⟩
end Go.Proofs.Ytlaneilmffdahaa.Mg
