/- merge3.Chunks. -/
import Derived.Test.YtlaneilmffdahaaMgGap
import Derived.Test.YtlaneilmffdahaaMgKept
namespace Go.Proofs.Ytlaneilmffdahaa.Mg
open Go.RowKit Go.Proofs.Ytlaneilmffdahaa.Ln
set_option linter.unusedVariables false

/-- chunks of one's own -/
def ChRet (l : List Ch) (w : World) (e : Ending) (w' : World) : Prop :=
  ∃ A C cv, e = .returned (.tuple #[.slice A l.length C, .int .i64 0]) ∧ cv.map Cv.ch = l ∧ w'.ownsRow w.heap.size 37 4 (.slice A l.length C) l.length (cvs cv) ∧ Rows w.heap.size w' (rws cv) ∧ Below w.heap.size w w'
theorem len_lines : ∀ (l : List Ch), (∀ c ∈ l, KindOk c) → l.length ≤ linesC l
  | [], _ => Nat.zero_le _
  | c :: l, h => by
      have ih := len_lines l (fun d hd => h d (List.mem_cons_of_mem _ hd))
      have hc := (h c (List.mem_cons_self ..)).2
      have e : linesC (c :: l) = c.b.length + c.o.length + c.t.length + linesC l := by simp [linesC]
      rw [List.length_cons, e]; omega
theorem mem_lines {l : List Ch} {c : Ch} (h : c ∈ l) : c.b.length + c.o.length + c.t.length ≤ linesC l := by
  induction l with
  | nil => simp at h
  | cons d l ih =>
    have e : linesC (d :: l) = d.b.length + d.o.length + d.t.length + linesC l := by simp [linesC]
    rcases List.mem_cons.1 h with rfl | h
    · omega
    · have := ih h; omega
/-- chunks that are not too many, nor too long -/
structure FewC (l : List Ch) : Prop where
  len : l.length ≤ 100000
  row : ∀ c ∈ l, c.b.length ≤ 1000000 ∧ c.o.length ≤ 1000000 ∧ c.t.length ≤ 1000000
theorem fewC_of {l : List Ch} (hk : ∀ c ∈ l, KindOk c) (hl : linesC l ≤ 100000) : FewC l :=
  ⟨Nat.le_trans (len_lines l hk) hl, fun c hc => by have := mem_lines hc; omega⟩
theorem gap_at (B P : Nat) (l : List Ch) (v0 v1 v2 : Value) (b o t : List ByteArray) (w : World) (h : PcAt w B P l) (hf : FewC l) (h0 : SlAt w B v0 b) (h1 : SlAt w B v1 o) (h2 : SlAt w B v2 t)
    (l0 : b.length ≤ 1000000) (l1 : o.length ≤ 1000000) (l2 : t.length ≤ 1000000) :
    Calls Try.prog 31 #[.pointer (some ⟨P, 0, none⟩), .agg #[v0, v1, v2]] w (PcRet B P (addC l (gapC b o t)) w) := by
  obtain ⟨v, cv, rfl, hp⟩ := h
  refine gap_any B P v cv v0 v1 v2 b o t w hp h0 h1 h2 (by simpa using hf.len) (fun c hc => hf.row c.ch (List.mem_map_of_mem hc)) l0 l1 l2
theorem same_at (B P : Nat) (l : List Ch) (s : ByteArray) (w : World) (h : PcAt w B P l) (hf : FewC l) :
    Calls Try.prog 33 #[.pointer (some ⟨P, 0, none⟩), .slice (some ⟨w.heap.size, 0, none⟩) 1 1] (w.alloc (.cells #[.string s] 9)) (PcRet B P (sameC l [s] [s] [s]) (w.alloc (.cells #[.string s] 9))) := by
  obtain ⟨v, cv, rfl, hp⟩ := h
  refine same_any B P w.heap.size v cv (some ⟨w.heap.size, 0, none⟩) 1 1 [s] _ (hp.belowW ((Below.refl _ _).alloc (Nat.le_refl _) _)) (Src.new fun r hr k hk => ((hp.rows.own r hr).lt k hk).2) (by simpa using hf.len) (by omega) (fun c hc => hf.row c.ch (List.mem_map_of_mem hc))

theorem fewC_add {l : List Ch} (hf : FewC l) (hk : ∀ c ∈ l, KindOk c) (hl : linesC l ≤ 12000) (b o t : List ByteArray) {n0 n1 n2 : Nat} (h0 : b.length ≤ n0) (h1 : o.length ≤ n1) (h2 : t.length ≤ n2) (m0 : n0 ≤ 4000) (m1 : n1 ≤ 4000) (m2 : n2 ≤ 4000) : FewC (addC l (gapC b o t)) :=
  fewC_of (all_kind hk rfl) (by rw [linesC_add]; simp only [gapC]; omega)
theorem seg_le (l : List ByteArray) (i j : Nat) (h : j ≤ l.length) : (seg l i j).length ≤ l.length := by rw [seg_len l i j h]; omega
theorem seg_at {l : List ByteArray} {k : Nat} (h : k < l.length) : seg l k (k + 1) = [l.getD k ByteArray.empty] := by
  unfold seg
  rw [List.take_succ_eq_append_getElem h, List.drop_append_of_le_length (by simp; omega), List.drop_of_length_le (by simp; omega), List.nil_append, List.getD_eq_getElem?_getD, List.getElem?_eq_getElem h]
  rfl
theorem range3 {w : World} {b : Nat} {x y z : Value} {t : TypeId} (h : w.heap[b]? = some (.cells #[x, y, z] t (0, 0))) : w.rangeAt b 0 [x, y, z] :=
  row_range (row_of_block (D := [x, y, z]) h) [x, y, z] rfl (fun _ _ => rfl)
/-- the walk's state -/
structure Ck (w3 : World) (vb vo vt : Value) (i k n : Nat) (l : List Ch) (wr : World) : Prop where
  pc : PcAt wr w3.heap.size w3.heap.size l
  rest : wr.heap[w3.heap.size + 1]? = some (.cells #[vb, vo, vt] 59 (0, 0))
  at' : wr.heap[w3.heap.size + 1 + 1]? = some (.cells #[.int .i64 i, .int .i64 k, .int .i64 n] 60 (0, 0))
  bel : Below w3.heap.size w3 wr
section
variable {w3 wr w' : World} {vb vo vt : Value} {i k n : Nat} {l l' : List Ch}
theorem Ck.go (h : Ck w3 vb vo vt i k n l wr) (hp : PcAt w' w3.heap.size w3.heap.size l') (hb : Below w3.heap.size wr w') (hk : Kp TP wr w') : Ck w3 vb vo vt i k n l' w' :=
  ⟨hp, hk.block _ _ _ _ h.rest (by decide), hk.block _ _ _ _ h.at' (by decide), h.bel.trans hb⟩
theorem Ck.belowW (h : Ck w3 vb vo vt i k n l wr) (hb : Below wr.heap.size wr w') : Ck w3 vb vo vt i k n l w' :=
  h.go (h.pc.belowW hb) (hb.mono h.bel.size) (kp_of_below hb)
theorem Ck.drewN (h : Ck w3 vb vo vt i k n l wr) (d : Nat) : Ck w3 vb vo vt i k n l (wr.drewN d) := h.belowW (below_drewN (Below.refl _ _) d)
theorem Ck.new (h : Ck w3 vb vo vt i k n l wr) (o : Obj) : Ck w3 vb vo vt i k n l (wr.alloc o) := h.belowW ((Below.refl _ _).alloc (Nat.le_refl _) o)
end
theorem ck_set {w3 wr : World} {vb vo vt : Value} {i k n : Nat} {l : List Ch} (h : Ck w3 vb vo vt i k n l wr) (i' k' n' : Nat) : Ck w3 vb vo vt i' k' n' l (wr.setCells (w3.heap.size + 1 + 1) 0 [.int .i64 i', .int .i64 k', .int .i64 n']) := by
  have hk : ∀ (vs : List Value) (o : Nat) (wx : World) (cs : Array Value), wx.heap[w3.heap.size + 1 + 1]? = some (.cells cs 60 (0, 0)) → Kp [60] wx (wx.setCells (w3.heap.size + 1 + 1) o vs) := by
    intro vs
    induction vs with
    | nil => intro o wx cs hh; exact Kp.refl _ _
    | cons v vs ih =>
      intro o wx cs hh
      exact ((Kp.refl [60] wx).set_one hh (by simp) v).trans (ih (o + 1) _ _ (heap_setCell_same _ _ _ _ _ _ hh))
  have k1 := hk [.int .i64 i', .int .i64 k', .int .i64 n'] 0 wr _ h.at'
  obtain ⟨v, cv, e, hp⟩ := h.pc
  exact ⟨⟨v, cv, e, hp.kp k1 (by decide) (by decide) (by decide)⟩, k1.block _ _ _ _ h.rest (by decide), row_stored (row_of_block (D := [.int .i64 i, .int .i64 k, .int .i64 n]) h.at') _ rfl, below_cells (by omega) _ 0 _ h.bel⟩
theorem addC_one {l : List Ch} {x : List ByteArray} {s : ByteArray} (h : x = [s]) : addC l (gapC x x x) = sameC l [s] [s] [s] := by
  subst h
  exact addC_same _ _ (by simp [gapC]) (kindOf_self _)
theorem ck_start (w3 : World) (vb vo vt : Value) : Ck w3 vb vo vt 0 0 0 [] (((w3.alloc (.cells #[.slice none 0 0] 57)).alloc (.cells #[vb, vo, vt] 59)).alloc (.cells #[.int .i64 0, .int .i64 0, .int .i64 0] 60)) := by
  have z1 : (w3.alloc (.cells #[.slice none 0 0] 57)).heap.size = w3.heap.size + 1 := by simp
  have z2 : ((w3.alloc (.cells #[.slice none 0 0] 57)).alloc (.cells #[vb, vo, vt] 59)).heap.size = w3.heap.size + 1 + 1 := by simp
  have h1 : PcAt (w3.alloc (.cells #[.slice none 0 0] 57)) w3.heap.size w3.heap.size [] := ⟨.slice none 0 0, [], rfl, Nat.le_refl _, heap_alloc_new w3 _, World.ownsRow_nil _ _ _ _, Rows.nil _ _⟩
  have b2 := (Below.refl (w3.alloc (.cells #[.slice none 0 0] 57)).heap.size _).alloc (Nat.le_refl _) (.cells #[vb, vo, vt] 59)
  have b3 := (Below.refl ((w3.alloc (.cells #[.slice none 0 0] 57)).alloc (.cells #[vb, vo, vt] 59)).heap.size _).alloc (Nat.le_refl _) (.cells #[.int .i64 0, .int .i64 0, .int .i64 0] 60)
  refine ⟨(h1.belowW b2).belowW b3, ?_, ?_, (((Below.refl _ w3).alloc (Nat.le_refl _) _).alloc (by simp) _).alloc (by simp; omega) _⟩
  · have := heap_alloc_new (w3.alloc (.cells #[.slice none 0 0] 57)) (.cells #[vb, vo, vt] 59)
    rw [z1] at this
    exact (b3.block _ (by omega)).trans this
  · have := heap_alloc_new ((w3.alloc (.cells #[.slice none 0 0] 57)).alloc (.cells #[vb, vo, vt] 59)) (.cells #[.int .i64 0, .int .i64 0, .int .i64 0] 60)
    rw [z2] at this
    exact this

set_option maxRecDepth 100000 in
set_option maxHeartbeats 4000000 in
theorem chunks_any (A0 : Option Addr) (n0 C0 : Nat) (base : List ByteArray) (A1 : Option Addr) (n1 C1 : Nat) (ours : List ByteArray) (A2 : Option Addr) (n2 C2 : Nat) (theirs : List ByteArray) (w : World)
    (h0 : Rd w w.heap.size A0 n0 C0 (sv base)) (h1 : Rd w w.heap.size A1 n1 C1 (sv ours)) (h2 : Rd w w.heap.size A2 n2 C2 (sv theirs))
    (m0 : ∀ s ∈ base, s.size ≤ maxLen) (m1 : ∀ s ∈ ours, s.size ≤ maxLen) (m2 : ∀ s ∈ theirs, s.size ≤ maxLen) (l0 : n0 ≤ 4000) (l1 : n1 ≤ 4000) (l2 : n2 ≤ 4000) :
    Calls Try.prog 12 #[.slice A0 n0 C0, .slice A1 n1 C1, .slice A2 n2 C2] w (ChRet (chunks base ours theirs) w) := by
  have e0 := rd_len h0
  have e1 := rd_len h1
  have e2 := rd_len h2
  have HK1 := Lib.hid (kept_any A0 n0 C0 base A1 n1 C1 ours w h0 h1 m0 m1 l0 l1)
  have HK2 := Lib.hid (fun (wx : World) (hb : Below w.heap.size w wx) => kept_any A0 n0 C0 base A2 n2 C2 theirs wx ((h0.below hb).more hb.size) ((h2.below hb).more hb.size) m0 m2 l0 l2)
  have HO := Lib.hid (part_ok base ours)
  have HT := Lib.hid (part_ok base theirs)
  have q0 := h0.hcap
  have r0 := h0.hmax
  have q1 := h1.hcap
  have r1 := h1.hmax
  have q2 := h2.hcap
  have r2 := h2.hmax
  have H0 := Lib.hid h0
  have H1 := Lib.hid h1
  have H2 := Lib.hid h2
  have E0 := Lib.hid e0
  have E1 := Lib.hid e1
  have E2 := Lib.hid e2
  clear h0 h1 h2 e0 e1 e2 m0 m1 m2
  have HL := Lib.hid (show (partS (steps base ours) 0).length = n0 by rw [partS_len]; exact E0.out)
  have HM := Lib.hid (show (partS (steps base theirs) 0).length = n0 by rw [partS_len]; exact E0.out)
  unfold chunks
  generalize partS (steps base ours) 0 = po at *
  generalize partS (steps base theirs) 0 = pt at *
  go_enter Try.func12, Try.ntmps12
  go_wp2_with fail
  go_step3
  go_wp2_with fail
  refine HK1.out.mono ?_
  rintro e w1 ⟨A8, C8, rfl, ho1, hb1⟩
  have HO1 := Lib.hid ho1
  have HB1 := Lib.hid hb1
  clear ho1 hb1
  go_wp2_with fail
  refine (HK2.out w1 HB1.out).mono ?_
  rintro e w3 ⟨A10, C10, rfl, ho2, hb2⟩
  have HO2 := Lib.hid (own_base ho2 HB1.out.size)
  have HO1' := Lib.hid (own_keep HO1.out hb2)
  have HB3 := Lib.hid (HB1.out.trans (hb2.mono HB1.out.size))
  clear ho2 hb2 HO1 HB1 HK1 HK2
  rw [HL.out] at HO1' ⊢
  rw [HM.out] at HO2 ⊢
  have R8 := Lib.hid (Rd.of_own HO1'.out (by omega)).1
  have R10 := Lib.hid (Rd.of_own HO2.out (by omega)).1
  have c8 := R8.out.hcap
  have d8 := R8.out.hmax
  have c10 := R10.out.hcap
  have d10 := R10.out.hmax
  have hz3 := HB3.out.size
  go_wp2_with fail
  go_step3
  go_wp2_with fail
  have HS := Lib.hid (ck_start w3 (.slice A0 n0 C0) (.slice A1 n1 C1) (.slice A2 n2 C2))
  go_loopw [41] (fun s41 wr => ∃ k : Nat, k ≤ n0 ∧ s41 = .int .i64 k ∧ Hid (Ck w3 (.slice A0 n0 C0) (.slice A1 n1 C1) (.slice A2 n2 C2) (stC base ours theirs po pt k).i (stC base ours theirs po pt k).k (stC base ours theirs po pt k).n (stC base ours theirs po pt k).l wr)) (fun s41 _ => n0 - (intOf s41).toNat)
  case atStart => exact ⟨0, Nat.zero_le _, rfl, HS⟩
  case round =>
    obtain ⟨k, hk, rfl, HC⟩ := hrel
    have ok := st_ok HO.out HT.out k (by rw [E0.out]; exact hk)
    have hli := linesC_st HO.out HT.out k (by rw [E0.out]; exact hk)
    have hki := st_kind base ours theirs po pt k
    by_cases hlt : k < n0
    · obtain ⟨b8, o8, rfl, hb8, hc8⟩ := R8.out.int k hlt
      obtain ⟨b10, o10, rfl, hb10, hc10⟩ := R10.out.int k hlt
      have HStep := Lib.hid (stC_succ base ours theirs po pt k)
      have hx := HO.out.at' k (by rw [E0.out]; exact hlt)
      have hy := HT.out.at' k (by rw [E0.out]; exact hlt)
      have hko := ok.ko k (Nat.le_refl _) (by rw [E0.out]; exact hlt)
      have hkt := ok.kt k (Nat.le_refl _) (by rw [E0.out]; exact hlt)
      unfold stepC at HStep
      obtain ⟨x, hxe⟩ : ∃ x, po.getD k 0 = x := ⟨_, rfl⟩
      obtain ⟨y, hye⟩ : ∃ y, pt.getD k 0 = y := ⟨_, rfl⟩
      rw [hxe] at hx hko hc8 HStep
      rw [hye] at hy hkt hc10 HStep
      have hbd : (stC base ours theirs po pt k).i ≤ k ∧ (stC base ours theirs po pt k).k ≤ n1 ∧ (stC base ours theirs po pt k).n ≤ n2 := ⟨ok.i, by rw [← E1.out]; exact ok.k, by rw [← E2.out]; exact ok.n⟩
      generalize stC base ours theirs po pt k = s1 at *
      obtain ⟨i, kk, nn, l⟩ := s1
      simp only at hbd hko hkt hli hki HC
      obtain ⟨hbi, hbk, hbn⟩ := hbd
      have HX := Lib.hid hx
      have HY := Lib.hid hy
      have HKo := Lib.hid hko
      have HKt := Lib.hid hkt
      have HFw := Lib.hid (fewC_of hki (by rw [hli]; omega))
      have HKi := Lib.hid hki
      have HLi := Lib.hid (show linesC l ≤ 12000 by rw [hli]; omega)
      have dC : Hid (wr.drew.cell? ⟨b8, o8 + k, none⟩ = some (.int .i64 x) ∧ wr.drew.cell? ⟨b10, o10 + k, none⟩ = some (.int .i64 y)) := Lib.hid
        ⟨((HC.out.bel).cell (p := ⟨b8, o8 + k, none⟩) hb8).trans hc8, ((HC.out.bel).cell (p := ⟨b10, o10 + k, none⟩) hb10).trans hc10⟩
      have dA := Lib.hid (fun o => (show (wr.drew.alloc o).cell? ⟨b8, o8 + k, none⟩ = some (.int .i64 x) ∧ (wr.drew.alloc o).cell? ⟨b10, o10 + k, none⟩ = some (.int .i64 y) from
        ⟨((HC.out.drewN 1).new o |>.bel.cell (p := ⟨b8, o8 + k, none⟩) hb8).trans hc8, ((HC.out.drewN 1).new o |>.bel.cell (p := ⟨b10, o10 + k, none⟩) hb10).trans hc10⟩))
      clear hx hy hko hkt hli hki ok hxe hye hc8 hc10 HS
      have HSl : Hid ((∀ wx, Below w3.heap.size w3 wx → SlAt wx w3.heap.size (.slice A0 n0 C0) base) ∧ (∀ wx, Below w3.heap.size w3 wx → SlAt wx w3.heap.size (.slice A1 n1 C1) ours) ∧ ∀ wx, Below w3.heap.size w3 wx → SlAt wx w3.heap.size (.slice A2 n2 C2) theirs) := Lib.hid
        ⟨fun wx hb => ⟨_, _, _, rfl, ((H0.out.below HB3.out).more hz3).below hb⟩, fun wx hb => ⟨_, _, _, rfl, ((H1.out.below HB3.out).more hz3).below hb⟩, fun wx hb => ⟨_, _, _, rfl, ((H2.out.below HB3.out).more hz3).below hb⟩⟩
      go_wp2_with fail
      refine wp_region_noPanic ?_
      refine wp_region_held_drew (S := (fun wS => wS.cell? ⟨b8, o8 + k, none⟩ = some (.int .i64 x) ∧ wS.cell? ⟨b10, o10 + k, none⟩ = some (.int .i64 y))) (by kernel_rfl) ?_ (fun hHeld => ?_)
      · ((try dsimp only); exact dC.out)
      refine wpAnyH_take (i := 0) (oi := { dst := some 44, op := Op.move (Operand.tmp 14), type := 3, pos := "merge3.go:26", after := #[], guard := none }) (v := ?_) rfl (by kernel_rfl) (by kernel_rfl) (by kernel_rfl) (fun _ _ _ h => h) (Or.inl ⟨by rfl, ?_⟩) (by assumption) ?_
      rotate_left 1
      · ((intro w hSw; (try dsimp only at hSw); go_simp) <;> with_reducible rfl)
      (try simp only [Act.put, List.setIfInBounds_toArray, List.set_cons_zero, List.set_cons_succ])
      refine wpAnyH_take (i := 1) (oi := { dst := some 45, op := Op.move (Operand.tmp 8), type := 49, pos := "merge3.go:26", after := #[], guard := none }) (v := ?_) rfl (by kernel_rfl) (by kernel_rfl) (by kernel_rfl) (fun _ _ _ h => h) (Or.inl ⟨by rfl, ?_⟩) (by assumption) ?_
      rotate_left 1
      · ((intro w hSw; (try dsimp only at hSw); go_simp) <;> with_reducible rfl)
      (try simp only [Act.put, List.setIfInBounds_toArray, List.set_cons_zero, List.set_cons_succ])
      refine wpAnyH_take (i := 2) (oi := { dst := some 46, op := Op.move (Operand.tmp 14), type := 3, pos := "merge3.go:26", after := #[], guard := none }) (v := ?_) rfl (by kernel_rfl) (by kernel_rfl) (by kernel_rfl) (fun _ _ _ h => h) (Or.inl ⟨by rfl, ?_⟩) (by assumption) ?_
      rotate_left 1
      · ((intro w hSw; (try dsimp only at hSw); go_simp) <;> with_reducible rfl)
      (try simp only [Act.put, List.setIfInBounds_toArray, List.set_cons_zero, List.set_cons_succ])
      refine wpAnyH_take (i := 3) (oi := { dst := some 47, op := Op.indexAddr 49 (Operand.tmp 45) (Operand.tmp 46), type := 0, pos := "merge3.go:26", after := #[{ on := 1, ground := Ground.data }, { on := 2, ground := Ground.data }], guard := none }) (v := ?_) rfl (by kernel_rfl) (by kernel_rfl) (by kernel_rfl) (fun _ _ _ h => h) (Or.inl ⟨by rfl, ?_⟩) (by assumption) ?_
      rotate_left 1
      · ((intro w hSw; (try dsimp only at hSw); go_simp) <;> with_reducible rfl)
      (try simp only [Act.put, List.setIfInBounds_toArray, List.set_cons_zero, List.set_cons_succ])
      refine wpAnyH_take (i := 4) (oi := { dst := some 48, op := Op.load 3 (Operand.tmp 47), type := 3, pos := "merge3.go:26", after := #[{ on := 3, ground := Ground.data }], guard := none }) (v := ?_) rfl (by kernel_rfl) (by kernel_rfl) (by kernel_rfl) (fun _ _ _ h => h) (Or.inl ⟨by rfl, ?_⟩) (by assumption) ?_
      rotate_left 1
      · ((intro w hSw; (try dsimp only at hSw); go_simp) <;> with_reducible rfl)
      (try simp only [Act.put, List.setIfInBounds_toArray, List.set_cons_zero, List.set_cons_succ])
      refine wpAnyH_take (i := 5) (oi := { dst := some 49, op := Op.move (Operand.tmp 10), type := 49, pos := "merge3.go:26", after := #[], guard := none }) (v := ?_) rfl (by kernel_rfl) (by kernel_rfl) (by kernel_rfl) (fun _ _ _ h => h) (Or.inl ⟨by rfl, ?_⟩) (by assumption) ?_
      rotate_left 1
      · ((intro w hSw; (try dsimp only at hSw); go_simp) <;> with_reducible rfl)
      (try simp only [Act.put, List.setIfInBounds_toArray, List.set_cons_zero, List.set_cons_succ])
      refine wpAnyH_take (i := 6) (oi := { dst := some 50, op := Op.move (Operand.tmp 14), type := 3, pos := "merge3.go:26", after := #[], guard := none }) (v := ?_) rfl (by kernel_rfl) (by kernel_rfl) (by kernel_rfl) (fun _ _ _ h => h) (Or.inl ⟨by rfl, ?_⟩) (by assumption) ?_
      rotate_left 1
      · ((intro w hSw; (try dsimp only at hSw); go_simp) <;> with_reducible rfl)
      (try simp only [Act.put, List.setIfInBounds_toArray, List.set_cons_zero, List.set_cons_succ])
      refine wpAnyH_take (i := 7) (oi := { dst := some 51, op := Op.indexAddr 49 (Operand.tmp 49) (Operand.tmp 50), type := 0, pos := "merge3.go:26", after := #[{ on := 5, ground := Ground.data }, { on := 6, ground := Ground.data }], guard := none }) (v := ?_) rfl (by kernel_rfl) (by kernel_rfl) (by kernel_rfl) (fun _ _ _ h => h) (Or.inl ⟨by rfl, ?_⟩) (by assumption) ?_
      rotate_left 1
      · ((intro w hSw; (try dsimp only at hSw); go_simp) <;> with_reducible rfl)
      (try simp only [Act.put, List.setIfInBounds_toArray, List.set_cons_zero, List.set_cons_succ])
      refine wpAnyH_take (i := 8) (oi := { dst := some 52, op := Op.load 3 (Operand.tmp 51), type := 3, pos := "merge3.go:26", after := #[{ on := 7, ground := Ground.data }], guard := none }) (v := ?_) rfl (by kernel_rfl) (by kernel_rfl) (by kernel_rfl) (fun _ _ _ h => h) (Or.inl ⟨by rfl, ?_⟩) (by assumption) ?_
      rotate_left 1
      · ((intro w hSw; (try dsimp only at hSw); go_simp) <;> with_reducible rfl)
      (try simp only [Act.put, List.setIfInBounds_toArray, List.set_cons_zero, List.set_cons_succ])
      refine wpAnyH_take (i := 9) (oi := { dst := some 53, op := Op.build 60 #[(0, Operand.tmp 44), (1, Operand.tmp 48), (2, Operand.tmp 52)], type := 60, pos := "merge3.go:26", after := #[{ on := 0, ground := Ground.data }, { on := 4, ground := Ground.data }, { on := 8, ground := Ground.data }], guard := none }) (v := ?_) rfl (by kernel_rfl) (by kernel_rfl) (by kernel_rfl) (fun _ _ _ h => h) (Or.inl ⟨by rfl, ?_⟩) (by assumption) ?_
      rotate_left 1
      · ((intro w hSw; (try dsimp only at hSw); go_simp) <;> with_reducible rfl)
      (try simp only [Act.put, List.setIfInBounds_toArray, List.set_cons_zero, List.set_cons_succ])
      refine wpAnyH_ready (rs := [10]) (by kernel_rfl) (by simp) ?_
      refine AllReadyH.cons (o := { dst := some 15, op := Op.alloc 60, type := 0, pos := "merge3.go:26", after := #[], guard := none }) rfl (fun K hK => ?_) ?_
      · go_simp
        skip
        (try go_wp2_with fail)
        refine hK.out _ _ ?_ (fun hNew => ?_)
        · ((try dsimp only); first | exact dC.out | exact dA.out _)
        clear hK K hHeld
        have hHeld := hNew
        clear hNew
        (try simp only [Act.put, List.setIfInBounds_toArray, List.set_cons_zero, List.set_cons_succ])
        refine wpAnyH_ready (rs := [11]) (by kernel_rfl) (by simp) ?_
        refine AllReadyH.cons (o := { dst := none, op := Op.store 60 (Operand.tmp 15) (Operand.tmp 53), type := 0, pos := "merge3.go:26", after := #[{ on := 10, ground := Ground.data }, { on := 9, ground := Ground.data }, { on := 0, ground := Ground.phase }, { on := 1, ground := Ground.phase }, { on := 2, ground := Ground.phase }, { on := 3, ground := Ground.phase }, { on := 4, ground := Ground.phase }, { on := 5, ground := Ground.phase }, { on := 6, ground := Ground.phase }, { on := 7, ground := Ground.phase }, { on := 8, ground := Ground.phase }, { on := 9, ground := Ground.phase }, { on := 10, ground := Ground.phase }], guard := none }) rfl (fun K hK => ?_) ?_
        · go_simp
          refine hK.out _ _ ?_ (fun hNew => ?_)
          · ((try dsimp only); first | exact dC.out | exact dA.out _)
          clear hK K hHeld
          have hHeld := hNew
          clear hNew
          (try simp only [Act.put, List.setIfInBounds_toArray, List.set_cons_zero, List.set_cons_succ])
          refine wpAnyH_done (by kernel_rfl) ?_ _
          refine NoPanic.normal ?_
          have HA : Hid (Ck w3 (.slice A0 n0 C0) (.slice A1 n1 C1) (.slice A2 n2 C2) i kk nn l (wr.alloc (.cells #[.int .i64 k, .int .i64 x, .int .i64 y] 60)).drew) := Lib.hid ((HC.out.new (.cells #[.int .i64 k, .int .i64 x, .int .i64 y] 60)).drewN 1)
          have HAX : Hid ((wr.alloc (.cells #[.int .i64 k, .int .i64 x, .int .i64 y] 60)).drew.heap[wr.heap.size]? = some (.cells #[.int .i64 k, .int .i64 x, .int .i64 y] 60 (0, 0))) := Lib.hid (heap_alloc_new wr _)
          by_cases hx0 : x < 0
          · have d1 : decide (x < 0) = true := by simpa using hx0
            have HE2 := Lib.hid (show stC base ours theirs po pt (k + 1) = ⟨i, kk, nn, l⟩ by rw [HStep.out, if_pos (.inl hx0)])
            clear hx0 HStep HX HY HKo HKt HC dC dA HAX
            go_wp2_with fail
            go_roundw
            case rel => exact ⟨k + 1, by omega, by go_num, by rw [HE2.out]; exact HA⟩
            case measure => simp [intOf]; omega
          · have d1 : decide (x < 0) = false := by simpa using hx0
            by_cases hy0 : y < 0
            · have d2 : decide (y < 0) = true := by simpa using hy0
              have HE2 := Lib.hid (show stC base ours theirs po pt (k + 1) = ⟨i, kk, nn, l⟩ by rw [HStep.out, if_pos (.inr hy0)])
              clear hx0 hy0 HStep HX HY HKo HKt HC dC dA HAX
              go_wp2_with fail
              go_roundw
              case rel => exact ⟨k + 1, by omega, by go_num, by rw [HE2.out]; exact HA⟩
              case measure => simp [intOf]; omega
            · have d2 : decide (y < 0) = false := by simpa using hy0
              rcases HX.out with e | ⟨j, rfl, j1, j2⟩
              · omega
              rcases HY.out with e | ⟨m, rfl, m1, m2⟩
              · omega
              have hkl : k < base.length := by rw [E0.out]; exact hlt
              have e2 := HStep.out
              rw [if_neg (by omega)] at e2
              simp only [Int.toNat_natCast] at e2
              have hj := HKo.out (by omega)
              have hm := HKt.out (by omega)
              have hjj : kk ≤ j := by omega
              have hmm : nn ≤ m := by omega
              have hj1 : j < n1 := by rw [← E1.out]; exact j1
              have hm1 : m < n2 := by rw [← E2.out]; exact m1
              have HE2 := Lib.hid e2
              have HSg := Lib.hid (seg_at hkl)
              have HFw2 := Lib.hid (fewC_add HFw.out HKi.out HLi.out (seg base i k) (seg ours kk j) (seg theirs nn m) (seg_le base i k (by omega)) (seg_le ours kk j (by rw [E1.out]; omega)) (seg_le theirs nn m (by rw [E2.out]; omega)) (by rw [E0.out]; omega) (by rw [E1.out]; omega) (by rw [E2.out]; omega))
              obtain ⟨xb, xo, rfl, hxb, hcb⟩ := H0.out.str k hlt
              have HCb := Lib.hid hcb
              clear hcb
              clear e2 hx0 hy0 HStep HX HY HKo HKt HC dC dA hj hm j1 m1 j2 m2
              have aC := three_cells HAX.out
              generalize hb0 : base.getD k ByteArray.empty = bs at *
              have HB0 := Lib.hid hb0
              clear hb0
              go_upto_region 15 with (fail)
              clear aC
              generalize wr.heap.size = X at *
              generalize (wr.alloc (.cells #[.int .i64 k, .int .i64 (j : Int), .int .i64 (m : Int)] 60)).drew = w4 at *
              have L1 := Lib.hid (range3 HA.out.rest)
              have L2 := Lib.hid (range3 HA.out.at')
              have L3 := Lib.hid (range3 HAX.out)
              go_wp2_with (first
                | (refine wpList_load_mid rfl _ _ rfl (w3.heap.size + 1) 0 rfl [_, _, _] _ L1.out Try.underlying59 rfl (by kernel_rfl) ?_)
                | (refine wpList_load_mid rfl _ _ rfl (w3.heap.size + 1 + 1) 0 rfl [_, _, _] _ L2.out Try.underlying60 rfl (by kernel_rfl) ?_)
                | (refine wpList_load_mid rfl _ _ rfl X 0 rfl [_, _, _] _ L3.out Try.underlying60 rfl (by kernel_rfl) ?_))
              refine (from_any _ _ _ base ours theirs i kk nn k j m w3.heap.size w4 (HSl.out.1 w4 HA.out.bel) (HSl.out.2.1 w4 HA.out.bel) (HSl.out.2.2 w4 HA.out.bel) ⟨hbi, by rw [E0.out]; omega⟩ ⟨hjj, by rw [E1.out]; omega⟩ ⟨hmm, by rw [E2.out]; omega⟩).mono ?_
              rintro e w5 ⟨rfl, hb5⟩
              have HA5 := Lib.hid (HA.out.belowW hb5)
              have HX5 := Lib.hid ((hb5.block X (lt_of_block HAX.out)).trans HAX.out)
              have HG := Lib.hid (gap_at w3.heap.size w3.heap.size l _ _ _ _ _ _ w5 HA5.out.pc HFw.out ((HSl.out.1 w5 HA5.out.bel).cut hbi (by rw [E0.out]; omega)) ((HSl.out.2.1 w5 HA5.out.bel).cut hjj (by rw [E1.out]; omega)) ((HSl.out.2.2 w5 HA5.out.bel).cut hmm (by rw [E2.out]; omega)) (Nat.le_trans (seg_le _ _ _ (by rw [E0.out]; omega)) (by rw [E0.out]; omega)) (Nat.le_trans (seg_le _ _ _ (by rw [E1.out]; omega)) (by rw [E1.out]; omega)) (Nat.le_trans (seg_le _ _ _ (by rw [E2.out]; omega)) (by rw [E2.out]; omega)))
              clear hb5 HA HAX L1 L2 L3
              go_wp2_with fail
              refine HG.out.mono ?_
              rintro e w6 ⟨rfl, hp6, hb6, hk6⟩
              have HA6 := Lib.hid (HA5.out.go hp6.out hb6.out hk6.out)
              have HX6 := Lib.hid (hk6.out.block _ _ _ _ HX5.out (by decide))
              have hcb := (HA6.out.bel.cell (p := ⟨xb, xo + k, none⟩) (Nat.lt_of_lt_of_le hxb hz3)).trans ((HB3.out.cell (p := ⟨xb, xo + k, none⟩) hxb).trans HCb.out)
              have HSm := Lib.hid (same_at w3.heap.size w3.heap.size _ bs w6 HA6.out.pc HFw2.out)
              clear hp6 hb6 hk6 HA5 HX5 HG
              go_wp2_with fail
              refine HSm.out.mono ?_
              rintro e w7 ⟨rfl, hp7, hb7, hk7⟩
              have HA7 := Lib.hid ((HA6.out.new (.cells #[.string bs] 9)).go hp7.out hb7.out hk7.out)
              have hX7 := hk7.out.block _ _ _ _ (((Below.refl _ _).alloc (Nat.le_refl _) (.cells #[.string bs] 9)).block X (lt_of_block HX6.out) |>.trans HX6.out) (by decide)
              obtain ⟨g0, g1, g2⟩ := three_cells hX7
              clear hX7 hp7 hb7 hk7 HA6 HX6 HSm hcb
              have L2 := Lib.hid (row_there (row_of_block (D := [.int .i64 i, .int .i64 kk, .int .i64 nn]) HA7.out.at'))
              have HZ := Lib.hid (ck_set HA7.out (k + 1) (j + 1) (m + 1))
              have HOne := Lib.hid (all_oneCell_toArray (cs := [.int .i64 ((k : Int) + 1), .int .i64 ((j : Int) + 1), .int .i64 ((m : Int) + 1)]) (by intro v hv; simp only [List.mem_cons, List.not_mem_nil, or_false] at hv; rcases hv with rfl | rfl | rfl <;> rfl))
              go_wp2_with (refine wpList_store_mid rfl _ _ _ rfl (w3.heap.size + 1 + 1) 0 #[.int .i64 ((k : Int) + 1), .int .i64 ((j : Int) + 1), .int .i64 ((m : Int) + 1)] rfl rfl L2.out (by kernel_rfl) HOne.out ?_)
              go_roundw
              case rel =>
                refine ⟨k + 1, by omega, by go_num, ?_⟩
                rw [HE2.out]
                simp only
                rw [addC_one HSg.out]
                exact HZ
              case measure => simp [intOf]; omega
        exact AllReadyH.nil
      exact AllReadyH.nil
    · obtain rfl : k = n0 := by omega
      have hst : endC base ours theirs po pt = addC (stC base ours theirs po pt k).l (gapC (seg base (stC base ours theirs po pt k).i k) (seg ours (stC base ours theirs po pt k).k n1) (seg theirs (stC base ours theirs po pt k).n n2)) := by
        unfold endC
        simp only [E0.out, E1.out, E2.out]
      have hbd : (stC base ours theirs po pt k).i ≤ k ∧ (stC base ours theirs po pt k).k ≤ n1 ∧ (stC base ours theirs po pt k).n ≤ n2 := ⟨ok.i, by rw [← E1.out]; exact ok.k, by rw [← E2.out]; exact ok.n⟩
      clear ok
      have HEnd := Lib.hid hst
      clear hst
      generalize stC base ours theirs po pt k = s1 at *
      obtain ⟨i, kk, nn, l⟩ := s1
      simp only at hbd hli hki HC
      obtain ⟨hbi, hbk, hbn⟩ := hbd
      have HFw := Lib.hid (fewC_of hki (by rw [hli]; omega))
      have HSl : Hid ((∀ wx, Below w3.heap.size w3 wx → SlAt wx w3.heap.size (.slice A0 k C0) base) ∧ (∀ wx, Below w3.heap.size w3 wx → SlAt wx w3.heap.size (.slice A1 n1 C1) ours) ∧ ∀ wx, Below w3.heap.size w3 wx → SlAt wx w3.heap.size (.slice A2 n2 C2) theirs) := Lib.hid
        ⟨fun wx hb => ⟨_, _, _, rfl, ((H0.out.below HB3.out).more hz3).below hb⟩, fun wx hb => ⟨_, _, _, rfl, ((H1.out.below HB3.out).more hz3).below hb⟩, fun wx hb => ⟨_, _, _, rfl, ((H2.out.below HB3.out).more hz3).below hb⟩⟩
      have L1 := Lib.hid (range3 HC.out.rest)
      have L2 := Lib.hid (range3 HC.out.at')
      clear hli hki HS
      go_wp2_with (first
        | (refine wpList_load_mid rfl _ _ rfl (w3.heap.size + 1) 0 rfl [_, _, _] _ L1.out Try.underlying59 rfl (by kernel_rfl) ?_)
        | (refine wpList_load_mid rfl _ _ rfl (w3.heap.size + 1 + 1) 0 rfl [_, _, _] _ L2.out Try.underlying60 rfl (by kernel_rfl) ?_))
      refine (from_any _ _ _ base ours theirs i kk nn k n1 n2 w3.heap.size wr (HSl.out.1 wr HC.out.bel) (HSl.out.2.1 wr HC.out.bel) (HSl.out.2.2 wr HC.out.bel) ⟨hbi, by rw [E0.out]; omega⟩ ⟨hbk, by rw [E1.out]; omega⟩ ⟨hbn, by rw [E2.out]; omega⟩).mono ?_
      rintro e w5 ⟨rfl, hb5⟩
      have HA5 := Lib.hid (HC.out.belowW hb5)
      have HG := Lib.hid (gap_at w3.heap.size w3.heap.size l _ _ _ _ _ _ w5 HA5.out.pc HFw.out ((HSl.out.1 w5 HA5.out.bel).cut hbi (by rw [E0.out]; omega)) ((HSl.out.2.1 w5 HA5.out.bel).cut hbk (by rw [E1.out]; omega)) ((HSl.out.2.2 w5 HA5.out.bel).cut hbn (by rw [E2.out]; omega)) (Nat.le_trans (seg_le _ _ _ (by rw [E0.out]; omega)) (by rw [E0.out]; omega)) (Nat.le_trans (seg_le _ _ _ (by rw [E1.out]; omega)) (by rw [E1.out]; omega)) (Nat.le_trans (seg_le _ _ _ (by rw [E2.out]; omega)) (by rw [E2.out]; omega)))
      clear hb5 HC L1 L2
      go_wp2_with fail
      refine HG.out.mono ?_
      rintro e w6 ⟨rfl, hp6, hb6, hk6⟩
      have HB6 := Lib.hid (HB3.out.trans ((HA5.out.bel.trans hb6.out).mono hz3))
      obtain ⟨v, cv, hcv, hp⟩ := hp6.out
      have ho := hp.own
      have hr := hp.rows
      have hc := cell_of_one hp.p
      obtain ⟨Av, Nv, Cv', rfl⟩ := own_slice ho
      obtain rfl := own_N ho
      have HO6 := Lib.hid (own_base ho hz3)
      have HR6 : Hid (Rows w.heap.size w6 (rws cv)) := Lib.hid ⟨fun r h => own_base (hr.own r h) hz3, hr.apart⟩
      have HCv := Lib.hid hcv
      clear hp6 hb6 hk6 HA5 HG hp ho hr hcv HL HM HO HT HSl HFw
      go_wp2_with fail
      rw [Exit.noGoto_ret]
      go_ret2
      have hlen := congrArg List.length HCv.out
      rw [List.length_map] at hlen
      rw [HEnd.out]
      refine ⟨Av, Cv', cv, by rw [← hlen]; rfl, HCv.out, ?_, HR6.out, HB6.out⟩
      rw [← hlen]
      exact HO6.out
end Go.Proofs.Ytlaneilmffdahaa.Mg
