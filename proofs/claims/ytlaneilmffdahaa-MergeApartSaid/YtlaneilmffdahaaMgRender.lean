/- merge3.Render. -/
import Derived.Test.YtlaneilmffdahaaMgEnd
import Derived.Test.YtlaneilmffdahaaMgFrom
import Derived.Test.YtlaneilmffdahaaMgPc
import Derived.Deep.RegionWith
import Derived.Deep.RegionHeld3
import Derived.Deep.RegionLaw
namespace Go.Proofs.Ytlaneilmffdahaa.Mg
open Go.RowKit Go.Proofs.Ytlaneilmffdahaa.Ln
set_option linter.unusedVariables false

/-- a slice that reads as chunks -/
structure RdC (w : World) (B : Nat) (A : Option Addr) (n C : Nat) (l : List Ch) : Prop where
  len : l.length = n
  cap : n ≤ C
  max : C ≤ 9223372036854775807
  cell : ∀ i (h : i < l.length), ∃ g o vb vo vt, A = some ⟨g, o, none⟩ ∧ g < B ∧ w.cell? ⟨g, o + i * 4, none⟩ = some (.int .i64 l[i].k) ∧ w.cell? ⟨g, o + i * 4 + 1, none⟩ = some vb ∧ w.cell? ⟨g, o + i * 4 + 2, none⟩ = some vo ∧ w.cell? ⟨g, o + i * 4 + 3, none⟩ = some vt ∧
    SlAt w B vb l[i].b ∧ SlAt w B vo l[i].o ∧ SlAt w B vt l[i].t
theorem RdC.below {w w' : World} {B : Nat} {A : Option Addr} {n C : Nat} {l : List Ch} (h : RdC w B A n C l) (hb : Below B w w') : RdC w' B A n C l :=
  ⟨h.len, h.cap, h.max, fun i hi => by
    obtain ⟨g, o, vb, vo, vt, ha, hg, c0, c1, c2, c3, s0, s1, s2⟩ := h.cell i hi
    exact ⟨g, o, vb, vo, vt, ha, hg, (hb.cell (p := ⟨g, o + i * 4, none⟩) hg).trans c0, (hb.cell (p := ⟨g, o + i * 4 + 1, none⟩) hg).trans c1, (hb.cell (p := ⟨g, o + i * 4 + 2, none⟩) hg).trans c2, (hb.cell (p := ⟨g, o + i * 4 + 3, none⟩) hg).trans c3, s0.below hb, s1.below hb, s2.below hb⟩⟩
theorem SlAt.more {w : World} {B B' : Nat} {v : Value} {xs : List ByteArray} (h : SlAt w B v xs) (hB : B ≤ B') : SlAt w B' v xs := by
  obtain ⟨A, n, C, e, hr⟩ := h
  exact ⟨A, n, C, e, hr.more hB⟩
theorem RdC.more {w : World} {B B' : Nat} {A : Option Addr} {n C : Nat} {l : List Ch} (h : RdC w B A n C l) (hB : B ≤ B') : RdC w B' A n C l :=
  ⟨h.len, h.cap, h.max, fun i hi => by
    obtain ⟨g, o, vb, vo, vt, ha, hg, c0, c1, c2, c3, s0, s1, s2⟩ := h.cell i hi
    exact ⟨g, o, vb, vo, vt, ha, by omega, c0, c1, c2, c3, s0.more hB, s1.more hB, s2.more hB⟩⟩
theorem slAt_of_own {w : World} {B : Nat} {v : Value} {l : List ByteArray} (h : w.ownsRow B 9 1 v l.length (sv l)) (hl : l.length ≤ 100000000) : SlAt w w.heap.size v l := by
  obtain ⟨A, N, C, rfl⟩ := own_slice h
  obtain rfl := own_N h
  exact ⟨A, l.length, C, rfl, (Rd.of_own h (by omega)).1⟩
/-- chunks of one's own read as chunks -/
theorem RdC.of_own {w : World} {B : Nat} {A : Option Addr} {n C : Nat} {cv : List Cv} (h : w.ownsRow B 37 4 (.slice A n C) n (cvs cv)) (hr : Rows B w (rws cv)) (hn : cv.length = n) (hf : ∀ c ∈ cv, c.b.length ≤ 100000000 ∧ c.o.length ≤ 100000000 ∧ c.t.length ≤ 100000000) : RdC w w.heap.size A n C (cv.map Cv.ch) := by
  obtain ⟨q1, q2⟩ := own_cap h
  have h0 := h
  refine ⟨by simpa using hn, q1, q2, fun i hi => ?_⟩
  rw [List.length_map] at hi
  rcases h.2 with ⟨hv, hz⟩ | ⟨g, cap, cur, hv, hg, hh, -⟩
  · omega
  · simp only [Value.slice.injEq] at hv
    obtain ⟨rfl, -, -⟩ := hv
    have hc : ∀ j, j < 4 → w.cell? ⟨g, 0 + i * 4 + j, none⟩ = (cv[i].cells)[j]? := fun j hj => by
      rw [Nat.zero_add, h0.cellAt _ (by omega), cvs_get cv i hi j hj]
    have hm : cv[i] ∈ cv := List.getElem_mem hi
    have hrow : ∀ r ∈ cv[i].rows, r ∈ rws cv := fun r hr => List.mem_flatMap.2 ⟨cv[i], hm, hr⟩
    obtain ⟨f1, f2, f3⟩ := hf _ hm
    have e : (cv.map Cv.ch)[i]'(by simpa using hi) = cv[i].ch := by simp
    rw [e]
    refine ⟨g, 0, cv[i].vb, cv[i].vo, cv[i].vt, rfl, lt_of_block hh, by simpa [Cv.cells, Cv.ch] using hc 0 (by omega), by simpa [Cv.cells] using hc 1 (by omega), by simpa [Cv.cells] using hc 2 (by omega), by simpa [Cv.cells] using hc 3 (by omega), ?_, ?_, ?_⟩
    · exact slAt_of_own (hr.own (cv[i].vb, cv[i].b) (hrow _ (by simp [Cv.rows]))) f1
    · exact slAt_of_own (hr.own (cv[i].vo, cv[i].o) (hrow _ (by simp [Cv.rows]))) f2
    · exact slAt_of_own (hr.own (cv[i].vt, cv[i].t) (hrow _ (by simp [Cv.rows]))) f3

/-- how much chunks are at most when rendered -/
def szC (l : List Ch) : Nat := (l.map fun c => (ints c.b).length + (ints c.o).length + (ints c.t).length + 40).sum
theorem szC_append (l m : List Ch) : szC (l ++ m) = szC l + szC m := by simp [szC]
theorem szC_one (c : Ch) : szC [c] = (ints c.b).length + (ints c.o).length + (ints c.t).length + 40 := by simp [szC]
theorem endd_le (l : List ByteArray) : (endd l).length ≤ (ints l).length + 1 := by
  unfold endd; split <;> simp
theorem rendC_le (c : Ch) : (rendC c).length ≤ szC [c] := by
  rw [szC_one]
  have h1 := endd_le c.b
  have h2 := endd_le c.o
  have h3 := endd_le c.t
  unfold rendC
  split
  · omega
  · split
    · omega
    · split
      · omega
      · split
        · simp only [List.length_append, mk, List.length_replicate, List.length_cons, List.length_nil]; omega
        · simp
theorem rend_le : ∀ l : List Ch, (rend l).length ≤ szC l
  | [] => by simp [rend]
  | c :: l => by
      have h1 := rend_le l
      have h2 := rendC_le c
      have e : szC (c :: l) = szC [c] + szC l := szC_append [c] l
      have e2 : rend (c :: l) = rendC c ++ rend l := rfl
      rw [e, e2, List.length_append]; omega
theorem take_c (l : List Ch) (k : Nat) (h : k < l.length) : rend (l.take (k + 1)) = rend (l.take k) ++ rendC l[k] ∧ szC (l.take k) + szC [l[k]] ≤ szC l := by
  have e : l.take (k + 1) = l.take k ++ [l[k]] := List.take_succ_eq_append_getElem h
  refine ⟨by rw [e, rend_append, rend_one], ?_⟩
  have e2 : szC l = szC (l.take (k + 1)) + szC (l.drop (k + 1)) := by conv => lhs; rw [← List.take_append_drop (k + 1) l, szC_append]
  rw [e, szC_append] at e2
  omega
theorem four_cells {w : World} {X : Nat} {x y z u : Value} {t : TypeId} (h : w.heap[X]? = some (.cells #[x, y, z, u] t (0, 0))) : w.cell? ⟨X, 0, none⟩ = some x ∧ w.cell? ⟨X, 1, none⟩ = some y ∧ w.cell? ⟨X, 2, none⟩ = some z ∧ w.cell? ⟨X, 3, none⟩ = some u := by
  refine ⟨?_, ?_, ?_, ?_⟩ <;> simp [World.cell?, h]

/-- the walk's state: bytes so far, the chunk at hand -/
structure Rn (w : World) (X : Nat) (cs : Array Value) (A : Option Addr) (C : Nat) (d : List Int) (wr : World) : Prop where
  own : wr.ownsRow w.heap.size 5 1 (.slice A d.length C) d.length (bv d)
  blk : wr.heap[X]? = some (.cells cs 37 (0, 0))
  bel : Below w.heap.size w wr
section
variable {w wr w' : World} {X : Nat} {cs : Array Value} {A A' : Option Addr} {C C' : Nat} {d d' : List Int}
theorem Rn.belowW (h : Rn w X cs A C d wr) (hb : Below wr.heap.size wr w') : Rn w X cs A C d w' :=
  ⟨own_keep h.own hb, (hb.block X (lt_of_block h.blk)).trans h.blk, h.bel.trans (hb.mono h.bel.size)⟩
theorem Rn.go (h : Rn w X cs A C d wr) (ho : w'.ownsRow w.heap.size 5 1 (.slice A' d'.length C') d'.length (bv d')) (hb : Below w.heap.size wr w') (hk : Kp [5] wr w') : Rn w X cs A' C' d' w' :=
  ⟨ho, hk.block _ _ _ _ h.blk (by decide), h.bel.trans hb⟩
theorem Rn.grown (h : Rn w X cs A C d wr) (ho : w'.ownsRow w.heap.size 5 1 (.slice A' d'.length C') d'.length (bv d')) (hg : wr.grownBy w' (Value.slice A d.length C).ownBlock) : Rn w X cs A' C' d' w' :=
  h.go ho (below_grown h.bel.size h.own hg) ((Kp.refl _ wr).grown h.own hg (by simp))
theorem Rn.drew (h : Rn w X cs A C d wr) : Rn w X cs A C d wr.drew := h.belowW (below_drewN (Below.refl _ _) 1)
end
theorem mk_cells : Lib.strCells ⟨#[60, 60, 60, 60, 60, 60, 60, 10]⟩ = bv (mk 0) ∧ Lib.strCells ⟨#[124, 124, 124, 124, 124, 124, 124, 10]⟩ = bv (mk 1) ∧ Lib.strCells ⟨#[61, 61, 61, 61, 61, 61, 61, 10]⟩ = bv (mk 2) ∧ Lib.strCells ⟨#[62, 62, 62, 62, 62, 62, 62, 10]⟩ = bv (mk 3) := ⟨rfl, rfl, rfl, rfl⟩

set_option maxRecDepth 100000 in
set_option maxHeartbeats 4000000 in
theorem render_any (A : Option Addr) (n C : Nat) (l : List Ch) (w : World) (h : RdC w w.heap.size A n C l) (hz : szC l ≤ 5000000) :
    Calls Try.prog 15 #[.slice A n C] w (BsRet (rend l) w) := by
  have hl := h.len
  have q1 := h.cap
  have q2 := h.max
  have H := Lib.hid h
  have HL := Lib.hid hl
  have HZ := Lib.hid hz
  clear h hl hz
  go_enter Try.func15, Try.ntmps15
  go_wp2
  go_loopw [3, 8] (fun s3 s8 wr => ∃ (k : Nat) (A3 : Option Addr) (C3 : Nat), k ≤ n ∧ s8 = .int .i64 k ∧ s3 = .slice A3 (rend (l.take k)).length C3 ∧ Hid (wr.ownsRow w.heap.size 5 1 (.slice A3 (rend (l.take k)).length C3) (rend (l.take k)).length (bv (rend (l.take k)))) ∧ Hid (Below w.heap.size w wr)) (fun _ s8 _ => n - (intOf s8).toNat)
  case atStart => exact ⟨0, none, 0, Nat.zero_le _, rfl, rfl, Lib.hid (World.ownsRow_nil _ _ _ _), Lib.hid (Below.refl _ _)⟩
  case round =>
    obtain ⟨k, A3, C3, hk, rfl, rfl, HO, HB⟩ := hrel
    by_cases hlt : k < n
    · have hkl : k < l.length := by rw [HL.out]; exact hlt
      obtain ⟨t1, t2⟩ := take_c l k hkl
      have t3 := rend_le (l.take k)
      have t4 := HZ.out
      obtain ⟨g, o, vb, vo, vt, rfl, hg, c0, c1, c2, c3, s0, s1, s2⟩ := (H.out.below HB.out).cell k hkl
      obtain ⟨kd, b, oo, t, hc⟩ : ∃ kd b oo t, l[k] = (⟨kd, b, oo, t⟩ : Ch) := ⟨l[k].k, l[k].b, l[k].o, l[k].t, rfl⟩
      rw [hc] at t1 t2 c0 s0 s1 s2
      simp only at c0 s0 s1 s2
      rw [szC_one] at t2
      simp only at t2
      obtain ⟨Ab, nb, Cb, rfl, rb⟩ := s0
      obtain ⟨Ao, no, Co, rfl, ro⟩ := s1
      obtain ⟨At, nt, Ct, rfl, rt⟩ := s2
      have HRn : Hid (Rn w wr.heap.size #[.int .i64 kd, .slice Ab nb Cb, .slice Ao no Co, .slice At nt Ct] A3 C3 (rend (l.take k)) (wr.alloc (.cells #[.int .i64 kd, .slice Ab nb Cb, .slice Ao no Co, .slice At nt Ct] 37))) := Lib.hid
        ⟨own_keep HO.out ((Below.refl _ _).alloc (Nat.le_refl _) _), heap_alloc_new wr _, HB.out.alloc HB.out.size _⟩
      have hba := (Below.refl w.heap.size wr).alloc HB.out.size (.cells #[.int .i64 kd, .slice Ab nb Cb, .slice Ao no Co, .slice At nt Ct] 37)
      have RB := Lib.hid (fun (wx : World) (hx : Below w.heap.size w wx) (hy : Below w.heap.size wr wx) => ((rb.below hy).more hx.size : Rd wx wx.heap.size Ab nb Cb (sv b)))
      have RO := Lib.hid (fun (wx : World) (hx : Below w.heap.size w wx) (hy : Below w.heap.size wr wx) => ((ro.below hy).more hx.size : Rd wx wx.heap.size Ao no Co (sv oo)))
      have RT := Lib.hid (fun (wx : World) (hx : Below w.heap.size w wx) (hy : Below w.heap.size wr wx) => ((rt.below hy).more hx.size : Rd wx wx.heap.size At nt Ct (sv t)))
      have HBa := Lib.hid hba
      have hd0 : (rend (l.take k)).length + ((ints b).length + (ints oo).length + (ints t).length + 40) ≤ 5000000 := by omega
      have HT1 := Lib.hid t1
      clear t1 t2 t3 t4 hc hba rb ro rt
      generalize rend (l.take k) = d at *
      by_cases k0 : kd = 0
      · subst k0
        have HRC : Hid (rend (l.take (k + 1)) = d ++ ints b) := Lib.hid (by rw [HT1.out]; simp [rendC])
        clear HT1
        go_wp2_with fail
        refine (join_bs Ab nb Cb b _ (RB.out _ HRn.out.bel HBa.out) (by omega)).mono ?_
        rintro e w2 ⟨Aj, Cj, rfl, hoj, hbj⟩
        have HR2 := Lib.hid (HRn.out.belowW hbj)
        have HJ := Lib.hid (Rd.of_own hoj (by omega)).1
        have hB2 := HR2.out.bel.size
        clear hoj hbj HRn HBa
        go_wp2_with (at_builtin; refine wpList_append_rd elB _ rfl _ _ rfl w.heap.size _ d.length (bv d) rfl HR2.out.own _ Aj (ints b).length Cj (bv (ints b)) rfl HJ.out (bv_one' _) (d.length + (ints b).length) rfl (by omega) hB2 ?_)
        intro A4 C4 w4 ho4 hg4 _
        rw [← bv_append] at ho4
        have HR4 : Hid (Rn w wr.heap.size #[.int .i64 0, .slice Ab nb Cb, .slice Ao no Co, .slice At nt Ct] A4 C4 (d ++ ints b) w4) := Lib.hid (HR2.out.grown (by rw [List.length_append]; exact ho4) hg4)
        clear ho4 hg4 HJ HR2
        go_wp2
        go_roundw
        case rel =>
          refine ⟨k + 1, A4, C4, by omega, by go_num, ?_, ?_, Lib.hid HR4.out.bel⟩
          · rw [HRC.out, List.length_append]
          · rw [HRC.out]; exact Lib.hid HR4.out.own
        case measure => simp [intOf]; omega
      · have f0 : (kd == 0) = false := by simpa using k0
        by_cases k1 : kd = 1
        · subst k1
          have HRC : Hid (rend (l.take (k + 1)) = d ++ ints oo) := Lib.hid (by rw [HT1.out]; simp [rendC])
          clear f0 k0
          clear HT1
          go_wp2_with fail
          refine (join_bs Ao no Co oo _ (RO.out _ HRn.out.bel HBa.out) (by omega)).mono ?_
          rintro e w2 ⟨Aj, Cj, rfl, hoj, hbj⟩
          have HR2 := Lib.hid (HRn.out.belowW hbj)
          have HJ := Lib.hid (Rd.of_own hoj (by omega)).1
          have hB2 := HR2.out.bel.size
          clear hoj hbj HRn HBa
          go_wp2_with (at_builtin; refine wpList_append_rd elB _ rfl _ _ rfl w.heap.size _ d.length (bv d) rfl HR2.out.own _ Aj (ints oo).length Cj (bv (ints oo)) rfl HJ.out (bv_one' _) (d.length + (ints oo).length) rfl (by omega) hB2 ?_)
          intro A4 C4 w4 ho4 hg4 _
          rw [← bv_append] at ho4
          have HR4 : Hid (Rn w wr.heap.size #[.int .i64 1, .slice Ab nb Cb, .slice Ao no Co, .slice At nt Ct] A4 C4 (d ++ ints oo) w4) := Lib.hid (HR2.out.grown (by rw [List.length_append]; exact ho4) hg4)
          clear ho4 hg4 HJ HR2
          go_wp2
          go_roundw
          case rel =>
            refine ⟨k + 1, A4, C4, by omega, by go_num, ?_, ?_, Lib.hid HR4.out.bel⟩
            · rw [HRC.out, List.length_append]
            · rw [HRC.out]; exact Lib.hid HR4.out.own
          case measure => simp [intOf]; omega
        · have f1 : (kd == 1) = false := by simpa using k1
          by_cases k3 : kd = 3
          · subst k3
            have HRC : Hid (rend (l.take (k + 1)) = d ++ ints oo) := Lib.hid (by rw [HT1.out]; simp [rendC])
            clear f0 k0 f1 k1
            clear HT1
            go_wp2_with fail
            refine (join_bs Ao no Co oo _ (RO.out _ HRn.out.bel HBa.out) (by omega)).mono ?_
            rintro e w2 ⟨Aj, Cj, rfl, hoj, hbj⟩
            have HR2 := Lib.hid (HRn.out.belowW hbj)
            have HJ := Lib.hid (Rd.of_own hoj (by omega)).1
            have hB2 := HR2.out.bel.size
            clear hoj hbj HRn HBa
            go_wp2_with (at_builtin; refine wpList_append_rd elB _ rfl _ _ rfl w.heap.size _ d.length (bv d) rfl HR2.out.own _ Aj (ints oo).length Cj (bv (ints oo)) rfl HJ.out (bv_one' _) (d.length + (ints oo).length) rfl (by omega) hB2 ?_)
            intro A4 C4 w4 ho4 hg4 _
            rw [← bv_append] at ho4
            have HR4 : Hid (Rn w wr.heap.size #[.int .i64 3, .slice Ab nb Cb, .slice Ao no Co, .slice At nt Ct] A4 C4 (d ++ ints oo) w4) := Lib.hid (HR2.out.grown (by rw [List.length_append]; exact ho4) hg4)
            clear ho4 hg4 HJ HR2
            go_wp2
            go_roundw
            case rel =>
              refine ⟨k + 1, A4, C4, by omega, by go_num, ?_, ?_, Lib.hid HR4.out.bel⟩
              · rw [HRC.out, List.length_append]
              · rw [HRC.out]; exact Lib.hid HR4.out.own
            case measure => simp [intOf]; omega
          · have f3 : (kd == 3) = false := by simpa using k3
            by_cases k2 : kd = 2
            · subst k2
              have HRC : Hid (rend (l.take (k + 1)) = d ++ ints t) := Lib.hid (by rw [HT1.out]; simp [rendC])
              clear f0 k0 f1 k1 f3 k3
              clear HT1
              go_wp2_with fail
              refine (join_bs At nt Ct t _ (RT.out _ HRn.out.bel HBa.out) (by omega)).mono ?_
              rintro e w2 ⟨Aj, Cj, rfl, hoj, hbj⟩
              have HR2 := Lib.hid (HRn.out.belowW hbj)
              have HJ := Lib.hid (Rd.of_own hoj (by omega)).1
              have hB2 := HR2.out.bel.size
              clear hoj hbj HRn HBa
              go_wp2_with (at_builtin; refine wpList_append_rd elB _ rfl _ _ rfl w.heap.size _ d.length (bv d) rfl HR2.out.own _ Aj (ints t).length Cj (bv (ints t)) rfl HJ.out (bv_one' _) (d.length + (ints t).length) rfl (by omega) hB2 ?_)
              intro A4 C4 w4 ho4 hg4 _
              rw [← bv_append] at ho4
              have HR4 : Hid (Rn w wr.heap.size #[.int .i64 2, .slice Ab nb Cb, .slice Ao no Co, .slice At nt Ct] A4 C4 (d ++ ints t) w4) := Lib.hid (HR2.out.grown (by rw [List.length_append]; exact ho4) hg4)
              clear ho4 hg4 HJ HR2
              go_wp2
              go_roundw
              case rel =>
                refine ⟨k + 1, A4, C4, by omega, by go_num, ?_, ?_, Lib.hid HR4.out.bel⟩
                · rw [HRC.out, List.length_append]
                · rw [HRC.out]; exact Lib.hid HR4.out.own
              case measure => simp [intOf]; omega
            · have f2 : (kd == 2) = false := by simpa using k2
              by_cases k4 : kd = 4
              · subst k4
                have HRC : Hid (rend (l.take (k + 1)) = d ++ mk 0 ++ endd oo ++ mk 1 ++ endd b ++ mk 2 ++ endd t ++ mk 3) := Lib.hid (by rw [HT1.out]; simp [rendC])
                clear f0 k0 f1 k1 f3 k3 f2 k2 HT1
                have z1 := endd_le oo
                have z2 := endd_le b
                have z3 := endd_le t
                have y0 : (mk 0).length = 8 := rfl
                have y1 : (mk 1).length = 8 := rfl
                have y2 : (mk 2).length = 8 := rfl
                have y3 : (mk 3).length = 8 := rfl
                have Y0 := Lib.hid y0
                have Y1 := Lib.hid y1
                have Y2 := Lib.hid y2
                have Y3 := Lib.hid y3
                clear y0 y1 y2 y3
                go_wp2_with fail
                have hW : Below w.heap.size wr (wr.alloc (.cells #[.int .i64 4, .slice Ab nb Cb, .slice Ao no Co, .slice At nt Ct] 37)) := HBa.out
                generalize hX : wr.heap.size = X at *
                generalize wr.alloc (.cells #[.int .i64 4, .slice Ab nb Cb, .slice Ao no Co, .slice At nt Ct] 37) = wo at *
                have HW := Lib.hid hW
                clear hW hX HBa
                have dR := Lib.hid HRn.out.drew
                have dB := Lib.hid (below_drewN HW.out 1)
                have dC := Lib.hid (four_cells dR.out.blk)
                clear HRn HW
                refine wp_region_noPanic ?_
                refine wp_region_held_drew (S := (fun wS => wS.cell? ⟨X, 2, none⟩ = some (Value.slice Ao no Co))) (by kernel_rfl) ?_ (fun hHeld => ?_)
                · ((try dsimp only); exact dC.out.2.2.1)
                refine wpAnyH_take (i := 0) (oi := { dst := some 39, op := Op.move (Operand.tmp 3), type := 32, pos := "marks.go:29", after := #[], guard := none }) (v := ?_) rfl (by kernel_rfl) (by kernel_rfl) (by kernel_rfl) (fun _ _ _ h => h) (Or.inl ⟨by rfl, ?_⟩) (by assumption) ?_
                rotate_left 1
                · ((intro w hSw; (try dsimp only at hSw); go_simp) <;> with_reducible rfl)
                (try simp only [Act.put, List.setIfInBounds_toArray, List.set_cons_zero, List.set_cons_succ])
                refine wpAnyH_take (i := 2) (oi := { dst := some 41, op := Op.fieldAddr 37 (Operand.tmp 5) 2, type := 0, pos := "marks.go:29", after := #[], guard := none }) (v := ?_) rfl (by kernel_rfl) (by kernel_rfl) (by kernel_rfl) (fun _ _ _ h => h) (Or.inl ⟨by rfl, ?_⟩) (by assumption) ?_
                rotate_left 1
                · ((intro w hSw; (try dsimp only at hSw); go_simp) <;> with_reducible rfl)
                (try simp only [Act.put, List.setIfInBounds_toArray, List.set_cons_zero, List.set_cons_succ])
                refine wpAnyH_take (i := 3) (oi := { dst := some 42, op := Op.load 22 (Operand.tmp 41), type := 22, pos := "marks.go:29", after := #[{ on := 2, ground := Ground.data }], guard := none }) (v := ?_) rfl (by kernel_rfl) (by kernel_rfl) (by kernel_rfl) (fun _ _ _ h => h) (Or.inl ⟨by rfl, ?_⟩) (by assumption) ?_
                rotate_left 1
                · ((intro w hSw; (try dsimp only at hSw); go_simp) <;> with_reducible rfl)
                (try simp only [Act.put, List.setIfInBounds_toArray, List.set_cons_zero, List.set_cons_succ])
                refine wpAnyH_ready (rs := [1]) (by kernel_rfl) (by simp) ?_
                refine AllReadyH.cons (o := { dst := some 40, op := Op.call { callee := Callee.builtin Builtin.append, args := #[Operand.tmp 39, Operand.const (Value.string { data := #[60, 60, 60, 60, 60, 60, 60, 10] })], argTypes := #[32, 9] }, type := 32, pos := "marks.go:29", after := #[{ on := 0, ground := Ground.data }], guard := none }) rfl (fun K hK => ?_) ?_
                · refine step_append_cs _ rfl (.tmp 39) (.const (.string _)) rfl w.heap.size _ d.length d rfl dR.out.own _ (mk 0) rfl mk_cells.1 (by have := Y0.out; omega) dR.out.bel.size ?_
                  intro A5 C5 wB ho5 hg5
                  have eR := Lib.hid (dR.out.grown (by rw [List.length_append]; exact ho5) hg5)
                  have eB := Lib.hid (dB.out.trans (below_grown dR.out.bel.size dR.out.own hg5))
                  have eC := Lib.hid (four_cells eR.out.blk)
                  have e5 : d.length + (mk 0).length = (d ++ mk 0).length := by rw [List.length_append]
                  rw [e5]
                  have l5 : (d ++ mk 0).length = d.length + 8 := by rw [List.length_append]; have := Y0.out; omega
                  clear ho5 hg5 dR dB dC e5
                  generalize hQ14 : d ++ mk 0 = q14 at *
                  have HQ14 := Lib.hid hQ14
                  have LQ14 := Lib.hid l5
                  have lq14 : q14.length ≤ d.length + 8 := by omega
                  clear hQ14 l5
                  have dR := eR
                  have dB := eB
                  have dC := eC
                  clear eR eB eC
                  (try go_wp2_with fail)
                  refine hK.out _ _ ?_ (fun hNew => ?_)
                  · ((try dsimp only); exact dC.out.2.2.1)
                  clear hK K hHeld
                  have hHeld := hNew
                  clear hNew
                  (try simp only [Act.put, List.setIfInBounds_toArray, List.set_cons_zero, List.set_cons_succ])
                  refine wpAnyH_ready (rs := [4]) (by kernel_rfl) (by simp) ?_
                  refine AllReadyH.cons (o := { dst := some 43, op := Op.call { callee := Callee.value (Operand.func 38), args := #[Operand.tmp 40, Operand.tmp 42], argTypes := #[32, 22] }, type := 32, pos := "marks.go:29", after := #[{ on := 1, ground := Ground.data }, { on := 3, ground := Ground.data }, { on := 1, ground := Ground.chain }], guard := none }) rfl (fun K hK => ?_) ?_
                  · go_simp
                    refine (ended_any w.heap.size A5 C5 q14 Ao no Co oo _ dR.out.own dR.out.bel.size (RO.out _ dR.out.bel dB.out) (by omega) (by omega)).mono ?_
                    rintro e wD ⟨A6, C6, rfl, ho6, hb6, hk6⟩
                    have eR := Lib.hid (dR.out.go ho6 hb6 hk6)
                    have eB := Lib.hid (dB.out.trans hb6)
                    have eC := Lib.hid (four_cells eR.out.blk)
                    clear ho6 hb6 hk6 dR dB dC
                    have dR := eR
                    have dB := eB
                    have dC := eC
                    clear eR eB eC
                    have hd15 : (q14 ++ endd oo).length = d.length + 8 + (endd oo).length := by rw [List.length_append]; have := LQ14.out; omega
                    generalize hD15 : q14 ++ endd oo = d15 at *
                    have HD15 := Lib.hid hD15
                    have hl15 : d15.length ≤ d.length + 8 + (endd oo).length := by omega
                    clear hd15 hD15
                    (try go_wp2_with fail)
                    refine hK.out _ _ ?_ (fun hNew => ?_)
                    · ((try dsimp only); exact dC.out.2.2.1)
                    clear hK K hHeld
                    have hHeld := hNew
                    clear hNew
                    (try simp only [Act.put, List.setIfInBounds_toArray, List.set_cons_zero, List.set_cons_succ])
                    refine wpAnyH_take (i := 5) (oi := { dst := some 3, op := Op.assign (Operand.tmp 43), type := 32, pos := "marks.go:29", after := #[{ on := 4, ground := Ground.data }, { on := 4, ground := Ground.chain }, { on := 0, ground := Ground.phase }, { on := 1, ground := Ground.phase }, { on := 2, ground := Ground.phase }, { on := 3, ground := Ground.phase }, { on := 4, ground := Ground.phase }], guard := none }) (v := ?_) rfl (by kernel_rfl) (by kernel_rfl) (by kernel_rfl) (fun _ _ _ h => h) (Or.inl ⟨by rfl, ?_⟩) (by assumption) ?_
                    rotate_left 1
                    · ((intro w hSw; (try dsimp only at hSw); go_simp) <;> with_reducible rfl)
                    (try simp only [Act.put, List.setIfInBounds_toArray, List.set_cons_zero, List.set_cons_succ])
                    refine wpAnyH_done (by kernel_rfl) ?_ _
                    refine NoPanic.normal ?_
                    clear hHeld
                    go_wp2_with fail
                    have eR := Lib.hid dR.out.drew
                    have eB := Lib.hid (below_drewN dB.out 1)
                    have eC := Lib.hid (four_cells eR.out.blk)
                    clear dR dB dC
                    have dR := eR
                    have dB := eB
                    have dC := eC
                    clear eR eB eC
                    refine wp_region_noPanic ?_
                    refine wp_region_held_drew (S := (fun wS => wS.cell? ⟨X, 1, none⟩ = some (Value.slice Ab nb Cb))) (by kernel_rfl) ?_ (fun hHeld => ?_)
                    · ((try dsimp only); exact dC.out.2.1)
                    refine wpAnyH_take (i := 0) (oi := { dst := some 44, op := Op.move (Operand.tmp 3), type := 32, pos := "marks.go:30", after := #[], guard := none }) (v := ?_) rfl (by kernel_rfl) (by kernel_rfl) (by kernel_rfl) (fun _ _ _ h => h) (Or.inl ⟨by rfl, ?_⟩) (by assumption) ?_
                    rotate_left 1
                    · ((intro w hSw; (try dsimp only at hSw); go_simp) <;> with_reducible rfl)
                    (try simp only [Act.put, List.setIfInBounds_toArray, List.set_cons_zero, List.set_cons_succ])
                    refine wpAnyH_take (i := 2) (oi := { dst := some 46, op := Op.fieldAddr 37 (Operand.tmp 5) 1, type := 0, pos := "marks.go:30", after := #[], guard := none }) (v := ?_) rfl (by kernel_rfl) (by kernel_rfl) (by kernel_rfl) (fun _ _ _ h => h) (Or.inl ⟨by rfl, ?_⟩) (by assumption) ?_
                    rotate_left 1
                    · ((intro w hSw; (try dsimp only at hSw); go_simp) <;> with_reducible rfl)
                    (try simp only [Act.put, List.setIfInBounds_toArray, List.set_cons_zero, List.set_cons_succ])
                    refine wpAnyH_take (i := 3) (oi := { dst := some 47, op := Op.load 22 (Operand.tmp 46), type := 22, pos := "marks.go:30", after := #[{ on := 2, ground := Ground.data }], guard := none }) (v := ?_) rfl (by kernel_rfl) (by kernel_rfl) (by kernel_rfl) (fun _ _ _ h => h) (Or.inl ⟨by rfl, ?_⟩) (by assumption) ?_
                    rotate_left 1
                    · ((intro w hSw; (try dsimp only at hSw); go_simp) <;> with_reducible rfl)
                    (try simp only [Act.put, List.setIfInBounds_toArray, List.set_cons_zero, List.set_cons_succ])
                    refine wpAnyH_ready (rs := [1]) (by kernel_rfl) (by simp) ?_
                    refine AllReadyH.cons (o := { dst := some 45, op := Op.call { callee := Callee.builtin Builtin.append, args := #[Operand.tmp 44, Operand.const (Value.string { data := #[124, 124, 124, 124, 124, 124, 124, 10] })], argTypes := #[32, 9] }, type := 32, pos := "marks.go:30", after := #[{ on := 0, ground := Ground.data }], guard := none }) rfl (fun K hK => ?_) ?_
                    · refine step_append_cs _ rfl (.tmp 44) (.const (.string _)) rfl w.heap.size _ d15.length d15 rfl dR.out.own _ (mk 1) rfl mk_cells.2.1 (by have := Y1.out; omega) dR.out.bel.size ?_
                      intro A5 C5 wB ho5 hg5
                      have eR := Lib.hid (dR.out.grown (by rw [List.length_append]; exact ho5) hg5)
                      have eB := Lib.hid (dB.out.trans (below_grown dR.out.bel.size dR.out.own hg5))
                      have eC := Lib.hid (four_cells eR.out.blk)
                      have e5 : d15.length + (mk 1).length = (d15 ++ mk 1).length := by rw [List.length_append]
                      rw [e5]
                      have l5 : (d15 ++ mk 1).length = d15.length + 8 := by rw [List.length_append]; have := Y1.out; omega
                      clear ho5 hg5 dR dB dC e5
                      generalize hQ15 : d15 ++ mk 1 = q15 at *
                      have HQ15 := Lib.hid hQ15
                      have LQ15 := Lib.hid l5
                      have lq15 : q15.length ≤ d15.length + 8 := by omega
                      clear hQ15 l5
                      have dR := eR
                      have dB := eB
                      have dC := eC
                      clear eR eB eC
                      (try go_wp2_with fail)
                      refine hK.out _ _ ?_ (fun hNew => ?_)
                      · ((try dsimp only); exact dC.out.2.1)
                      clear hK K hHeld
                      have hHeld := hNew
                      clear hNew
                      (try simp only [Act.put, List.setIfInBounds_toArray, List.set_cons_zero, List.set_cons_succ])
                      refine wpAnyH_ready (rs := [4]) (by kernel_rfl) (by simp) ?_
                      refine AllReadyH.cons (o := { dst := some 48, op := Op.call { callee := Callee.value (Operand.func 38), args := #[Operand.tmp 45, Operand.tmp 47], argTypes := #[32, 22] }, type := 32, pos := "marks.go:30", after := #[{ on := 1, ground := Ground.data }, { on := 3, ground := Ground.data }, { on := 1, ground := Ground.chain }], guard := none }) rfl (fun K hK => ?_) ?_
                      · go_simp
                        refine (ended_any w.heap.size A5 C5 q15 Ab nb Cb b _ dR.out.own dR.out.bel.size (RB.out _ dR.out.bel dB.out) (by omega) (by omega)).mono ?_
                        rintro e wD ⟨A6, C6, rfl, ho6, hb6, hk6⟩
                        have eR := Lib.hid (dR.out.go ho6 hb6 hk6)
                        have eB := Lib.hid (dB.out.trans hb6)
                        have eC := Lib.hid (four_cells eR.out.blk)
                        clear ho6 hb6 hk6 dR dB dC
                        have dR := eR
                        have dB := eB
                        have dC := eC
                        clear eR eB eC
                        have hd16 : (q15 ++ endd b).length = d15.length + 8 + (endd b).length := by rw [List.length_append]; have := LQ15.out; omega
                        generalize hD16 : q15 ++ endd b = d16 at *
                        have HD16 := Lib.hid hD16
                        have hl16 : d16.length ≤ d15.length + 8 + (endd b).length := by omega
                        clear hd16 hD16
                        (try go_wp2_with fail)
                        refine hK.out _ _ ?_ (fun hNew => ?_)
                        · ((try dsimp only); exact dC.out.2.1)
                        clear hK K hHeld
                        have hHeld := hNew
                        clear hNew
                        (try simp only [Act.put, List.setIfInBounds_toArray, List.set_cons_zero, List.set_cons_succ])
                        refine wpAnyH_take (i := 5) (oi := { dst := some 3, op := Op.assign (Operand.tmp 48), type := 32, pos := "marks.go:30", after := #[{ on := 4, ground := Ground.data }, { on := 4, ground := Ground.chain }, { on := 0, ground := Ground.phase }, { on := 1, ground := Ground.phase }, { on := 2, ground := Ground.phase }, { on := 3, ground := Ground.phase }, { on := 4, ground := Ground.phase }], guard := none }) (v := ?_) rfl (by kernel_rfl) (by kernel_rfl) (by kernel_rfl) (fun _ _ _ h => h) (Or.inl ⟨by rfl, ?_⟩) (by assumption) ?_
                        rotate_left 1
                        · ((intro w hSw; (try dsimp only at hSw); go_simp) <;> with_reducible rfl)
                        (try simp only [Act.put, List.setIfInBounds_toArray, List.set_cons_zero, List.set_cons_succ])
                        refine wpAnyH_done (by kernel_rfl) ?_ _
                        refine NoPanic.normal ?_
                        clear hHeld
                        go_wp2_with fail
                        have eR := Lib.hid dR.out.drew
                        have eB := Lib.hid (below_drewN dB.out 1)
                        have eC := Lib.hid (four_cells eR.out.blk)
                        clear dR dB dC
                        have dR := eR
                        have dB := eB
                        have dC := eC
                        clear eR eB eC
                        refine wp_region_noPanic ?_
                        refine wp_region_held_drew (S := (fun wS => wS.cell? ⟨X, 3, none⟩ = some (Value.slice At nt Ct))) (by kernel_rfl) ?_ (fun hHeld => ?_)
                        · ((try dsimp only); exact dC.out.2.2.2)
                        refine wpAnyH_take (i := 0) (oi := { dst := some 49, op := Op.move (Operand.tmp 3), type := 32, pos := "marks.go:31", after := #[], guard := none }) (v := ?_) rfl (by kernel_rfl) (by kernel_rfl) (by kernel_rfl) (fun _ _ _ h => h) (Or.inl ⟨by rfl, ?_⟩) (by assumption) ?_
                        rotate_left 1
                        · ((intro w hSw; (try dsimp only at hSw); go_simp) <;> with_reducible rfl)
                        (try simp only [Act.put, List.setIfInBounds_toArray, List.set_cons_zero, List.set_cons_succ])
                        refine wpAnyH_take (i := 2) (oi := { dst := some 51, op := Op.fieldAddr 37 (Operand.tmp 5) 3, type := 0, pos := "marks.go:31", after := #[], guard := none }) (v := ?_) rfl (by kernel_rfl) (by kernel_rfl) (by kernel_rfl) (fun _ _ _ h => h) (Or.inl ⟨by rfl, ?_⟩) (by assumption) ?_
                        rotate_left 1
                        · ((intro w hSw; (try dsimp only at hSw); go_simp) <;> with_reducible rfl)
                        (try simp only [Act.put, List.setIfInBounds_toArray, List.set_cons_zero, List.set_cons_succ])
                        refine wpAnyH_take (i := 3) (oi := { dst := some 52, op := Op.load 22 (Operand.tmp 51), type := 22, pos := "marks.go:31", after := #[{ on := 2, ground := Ground.data }], guard := none }) (v := ?_) rfl (by kernel_rfl) (by kernel_rfl) (by kernel_rfl) (fun _ _ _ h => h) (Or.inl ⟨by rfl, ?_⟩) (by assumption) ?_
                        rotate_left 1
                        · ((intro w hSw; (try dsimp only at hSw); go_simp) <;> with_reducible rfl)
                        (try simp only [Act.put, List.setIfInBounds_toArray, List.set_cons_zero, List.set_cons_succ])
                        refine wpAnyH_ready (rs := [1]) (by kernel_rfl) (by simp) ?_
                        refine AllReadyH.cons (o := { dst := some 50, op := Op.call { callee := Callee.builtin Builtin.append, args := #[Operand.tmp 49, Operand.const (Value.string { data := #[61, 61, 61, 61, 61, 61, 61, 10] })], argTypes := #[32, 9] }, type := 32, pos := "marks.go:31", after := #[{ on := 0, ground := Ground.data }], guard := none }) rfl (fun K hK => ?_) ?_
                        · refine step_append_cs _ rfl (.tmp 49) (.const (.string _)) rfl w.heap.size _ d16.length d16 rfl dR.out.own _ (mk 2) rfl mk_cells.2.2.1 (by have := Y2.out; omega) dR.out.bel.size ?_
                          intro A5 C5 wB ho5 hg5
                          have eR := Lib.hid (dR.out.grown (by rw [List.length_append]; exact ho5) hg5)
                          have eB := Lib.hid (dB.out.trans (below_grown dR.out.bel.size dR.out.own hg5))
                          have eC := Lib.hid (four_cells eR.out.blk)
                          have e5 : d16.length + (mk 2).length = (d16 ++ mk 2).length := by rw [List.length_append]
                          rw [e5]
                          have l5 : (d16 ++ mk 2).length = d16.length + 8 := by rw [List.length_append]; have := Y2.out; omega
                          clear ho5 hg5 dR dB dC e5
                          generalize hQ16 : d16 ++ mk 2 = q16 at *
                          have HQ16 := Lib.hid hQ16
                          have LQ16 := Lib.hid l5
                          have lq16 : q16.length ≤ d16.length + 8 := by omega
                          clear hQ16 l5
                          have dR := eR
                          have dB := eB
                          have dC := eC
                          clear eR eB eC
                          (try go_wp2_with fail)
                          refine hK.out _ _ ?_ (fun hNew => ?_)
                          · ((try dsimp only); exact dC.out.2.2.2)
                          clear hK K hHeld
                          have hHeld := hNew
                          clear hNew
                          (try simp only [Act.put, List.setIfInBounds_toArray, List.set_cons_zero, List.set_cons_succ])
                          refine wpAnyH_ready (rs := [4]) (by kernel_rfl) (by simp) ?_
                          refine AllReadyH.cons (o := { dst := some 53, op := Op.call { callee := Callee.value (Operand.func 38), args := #[Operand.tmp 50, Operand.tmp 52], argTypes := #[32, 22] }, type := 32, pos := "marks.go:31", after := #[{ on := 1, ground := Ground.data }, { on := 3, ground := Ground.data }, { on := 1, ground := Ground.chain }], guard := none }) rfl (fun K hK => ?_) ?_
                          · go_simp
                            refine (ended_any w.heap.size A5 C5 q16 At nt Ct t _ dR.out.own dR.out.bel.size (RT.out _ dR.out.bel dB.out) (by omega) (by omega)).mono ?_
                            rintro e wD ⟨A6, C6, rfl, ho6, hb6, hk6⟩
                            have eR := Lib.hid (dR.out.go ho6 hb6 hk6)
                            have eB := Lib.hid (dB.out.trans hb6)
                            have eC := Lib.hid (four_cells eR.out.blk)
                            clear ho6 hb6 hk6 dR dB dC
                            have dR := eR
                            have dB := eB
                            have dC := eC
                            clear eR eB eC
                            have hd17 : (q16 ++ endd t).length = d16.length + 8 + (endd t).length := by rw [List.length_append]; have := LQ16.out; omega
                            generalize hD17 : q16 ++ endd t = d17 at *
                            have HD17 := Lib.hid hD17
                            have hl17 : d17.length ≤ d16.length + 8 + (endd t).length := by omega
                            clear hd17 hD17
                            (try go_wp2_with fail)
                            refine hK.out _ _ ?_ (fun hNew => ?_)
                            · ((try dsimp only); exact dC.out.2.2.2)
                            clear hK K hHeld
                            have hHeld := hNew
                            clear hNew
                            (try simp only [Act.put, List.setIfInBounds_toArray, List.set_cons_zero, List.set_cons_succ])
                            refine wpAnyH_take (i := 5) (oi := { dst := some 3, op := Op.assign (Operand.tmp 53), type := 32, pos := "marks.go:31", after := #[{ on := 4, ground := Ground.data }, { on := 4, ground := Ground.chain }, { on := 0, ground := Ground.phase }, { on := 1, ground := Ground.phase }, { on := 2, ground := Ground.phase }, { on := 3, ground := Ground.phase }, { on := 4, ground := Ground.phase }], guard := none }) (v := ?_) rfl (by kernel_rfl) (by kernel_rfl) (by kernel_rfl) (fun _ _ _ h => h) (Or.inl ⟨by rfl, ?_⟩) (by assumption) ?_
                            rotate_left 1
                            · ((intro w hSw; (try dsimp only at hSw); go_simp) <;> with_reducible rfl)
                            (try simp only [Act.put, List.setIfInBounds_toArray, List.set_cons_zero, List.set_cons_succ])
                            refine wpAnyH_done (by kernel_rfl) ?_ _
                            refine NoPanic.normal ?_
                            clear hHeld
                            go_wp2_with (at_builtin; refine wpList_append_cs _ rfl _ _ rfl w.heap.size _ d17.length d17 rfl dR.out.own _ (mk 3) rfl mk_cells.2.2.2 (by have := Y3.out; omega) dR.out.bel.size ?_)
                            intro A7 C7 w7 ho7 hg7
                            have HR7 := Lib.hid (dR.out.grown (d' := d17 ++ mk 3) (by rw [List.length_append]; exact ho7) hg7)
                            clear ho7 hg7 dR dB dC
                            go_wp2
                            go_roundw
                            case rel =>
                              have e7 : rend (l.take (k + 1)) = d17 ++ mk 3 := by rw [HRC.out, ← HD17.out, ← HQ16.out, ← HD16.out, ← HQ15.out, ← HD15.out, ← HQ14.out]
                              refine ⟨k + 1, A7, C7, by omega, by go_num, ?_, ?_, Lib.hid HR7.out.bel⟩
                              · rw [e7, List.length_append]
                              · rw [e7]; exact Lib.hid HR7.out.own
                            case measure => simp [intOf]; omega
                          exact AllReadyH.nil
                        exact AllReadyH.nil
                      exact AllReadyH.nil
                    exact AllReadyH.nil
                  exact AllReadyH.nil
                exact AllReadyH.nil
              · have f4 : (kd == 4) = false := by simpa using k4
                have HRC : Hid (rend (l.take (k + 1)) = d) := Lib.hid (by rw [HT1.out]; simp [rendC, k0, k1, k2, k3, k4])
                have HR4 := HRn
                clear k0 k1 k2 k3 k4 HT1 HRn
                go_wp2
                go_roundw
                case rel =>
                  refine ⟨k + 1, A3, C3, by omega, by go_num, ?_, ?_, Lib.hid HR4.out.bel⟩
                  · rw [HRC.out]
                  · rw [HRC.out]; exact Lib.hid HR4.out.own
                case measure => simp [intOf]; omega
    · go_wp2
      go_ret
      have e : rend (l.take k) = rend l := by rw [List.take_of_length_le (by rw [HL.out]; omega)]
      rw [e] at HO ⊢
      exact ⟨A3, C3, rfl, HO.out, HB.out⟩
end Go.Proofs.Ytlaneilmffdahaa.Mg
