/- pieces.gap: what lies between anchors comes behind chunks. -/
import Derived.Test.YtlaneilmffdahaaMgSame
import Derived.Test.YtlaneilmffdahaaMgKind
import Derived.Deep.RegionWith
import Derived.Deep.RegionHeld3
import Derived.Deep.RegionLaw
namespace Go.Proofs.Ytlaneilmffdahaa.Mg
open Go.RowKit Go.Proofs.Ytlaneilmffdahaa.Ln
set_option linter.unusedVariables false

/-- between the clones: the chunks, the sides, the rows so far -/
structure Gp (w : World) (B P S : Nat) (v : Value) (cv : List Cv) (s : Array Value) (rs : List (Value × List ByteArray)) (wx : World) : Prop where
  pc : PcV wx B P v cv
  cells : wx.heap[S]? = some (.cells s 59 (0, 0))
  rows : Rows B wx (rws cv ++ rs)
  bel : Below B w wx
  kp : Kp TP w wx
section
variable {w wx : World} {B P S : Nat} {v : Value} {cv : List Cv} {s : Array Value} {rs : List (Value × List ByteArray)}
theorem Gp.drew (h : Gp w B P S v cv s rs wx) : Gp w B P S v cv s rs wx.drew :=
  ⟨h.pc.belowW (below_drewN (Below.refl _ _) 1), h.cells, h.rows.belowW (below_drewN (Below.refl _ _) 1), below_drewN h.bel 1, h.kp.drewN 1⟩
theorem Gp.clone (h : Gp w B P S v cv s rs wx) {l : List ByteArray} {e : Ending} {w' : World} (hr : StrRet l wx e w') : ∃ A C, e = .returned (.slice A l.length C) ∧ Gp w B P S v cv s (rs ++ [(.slice A l.length C, l)]) w' := by
  obtain ⟨A, C, rfl, ho, hb⟩ := hr
  have hlt := h.pc.lt
  have hB := h.pc.hB
  refine ⟨A, C, rfl, h.pc.belowW hb, (hb.block S (lt_of_block h.cells)).trans h.cells, ?_, h.bel.trans (hb.mono (by omega)), h.kp.trans (kp_of_below hb)⟩
  rw [← List.append_assoc]
  refine (h.rows.belowW hb).append ⟨fun r hr => ?_, List.pairwise_singleton _ _⟩ (fun r hr q hq => ?_)
  · rw [List.mem_singleton.1 hr]
    exact own_base ho (by omega)
  · rw [List.mem_singleton.1 hq]
    intro k h1 h2
    have := (h.rows.own r hr).lt k h1
    have := ho.lt k h2
    omega
theorem Gp.mv (h : Gp w B P S v cv s rs wx) (o : Obj) : Gp w B P S v cv s rs (wx.alloc o) := by
  have hb := (Below.refl wx.heap.size wx).alloc (Nat.le_refl _) o
  have hlt := h.pc.lt
  have hB := h.pc.hB
  exact ⟨h.pc.belowW hb, (hb.block S (lt_of_block h.cells)).trans h.cells, h.rows.belowW hb, h.bel.trans (hb.mono (by omega)), h.kp.trans (kp_of_below hb)⟩
theorem Gp.src (h : Gp w B P S v cv s rs wx) {A : Option Addr} {n C : Nat} {l : List ByteArray} (hs : Rd w B A n C (sv l)) : Rd wx wx.heap.size A n C (sv l) := by
  have hlt := h.pc.lt
  have hB := h.pc.hB
  exact (hs.below h.bel).more (by omega)
end
theorem gp_start {w w1 : World} {B P : Nat} {v : Value} {cv : List Cv} {s : Array Value} (h : PcV w B P v cv) (hb : Below (w.alloc (.cells s 59)).heap.size (w.alloc (.cells s 59)) w1) : Gp w B P w.heap.size v cv s [] w1 := by
  have hlt := h.lt
  have hB := h.hB
  have hz : (w.alloc (.cells s 59)).heap.size = w.heap.size + 1 := by simp
  have h1 : PcV (w.alloc (.cells s 59)) B P v cv := h.belowW ((Below.refl _ _).alloc (Nat.le_refl _) _)
  have h2 := h1.belowW hb
  exact ⟨h2, (hb.block w.heap.size (by omega)).trans (heap_alloc_new w _), by rw [List.append_nil]; exact h2.rows, ((Below.refl B w).alloc (by omega) _).trans (hb.mono (by omega)), ((Kp.refl TP w).alloc _).trans (kp_of_below hb)⟩
theorem three_cells {w : World} {X : Nat} {x y z : Value} {t : TypeId} (h : w.heap[X]? = some (.cells #[x, y, z] t (0, 0))) : w.cell? ⟨X, 0, none⟩ = some x ∧ w.cell? ⟨X, 1, none⟩ = some y ∧ w.cell? ⟨X, 2, none⟩ = some z := by
  refine ⟨?_, ?_, ?_⟩ <;> simp [World.cell?, h]

set_option maxRecDepth 100000 in
set_option maxHeartbeats 4000000 in
theorem gap_any (B P : Nat) (v : Value) (cv : List Cv) (v0 v1 v2 : Value) (b o t : List ByteArray) (w : World) (h : PcV w B P v cv) (h0 : SlAt w B v0 b) (h1 : SlAt w B v1 o) (h2 : SlAt w B v2 t)
    (hl : cv.length ≤ 100000) (hb : ∀ c ∈ cv, c.b.length ≤ 1000000 ∧ c.o.length ≤ 1000000 ∧ c.t.length ≤ 1000000) (l0 : b.length ≤ 1000000) (l1 : o.length ≤ 1000000) (l2 : t.length ≤ 1000000) :
    Calls Try.prog 31 #[.pointer (some ⟨P, 0, none⟩), .agg #[v0, v1, v2]] w (PcRet B P (addC (cv.map Cv.ch) (gapC b o t)) w) := by
  have hB : B ≤ w.heap.size := by have := h.lt; have := h.hB; omega
  have hbel := (Below.refl B w).alloc hB (.cells #[v0, v1, v2] 59)
  have hbw := (Below.refl w.heap.size w).alloc (Nat.le_refl _) (.cells #[v0, v1, v2] 59)
  have HC := Lib.hid (kind_any v0 v1 v2 b o t B (w.alloc (.cells #[v0, v1, v2] 59)) (by simp; omega) (h0.below hbel) (h1.below hbel) (h2.below hbel))
  obtain ⟨A0, n0, C0, rfl, r0⟩ := h0
  obtain ⟨A1, n1, C1, rfl, r1⟩ := h1
  obtain ⟨A2, n2, C2, rfl, r2⟩ := h2
  have e0 := rd_len r0
  have e1 := rd_len r1
  have e2 := rd_len r2
  rw [e0] at l0
  rw [e1] at l1
  rw [e2] at l2
  have m0 := r0.hcap
  have m1 := r1.hcap
  have m2 := r2.hcap
  have k0 := r0.hmax
  have k1 := r1.hmax
  have k2 := r2.hmax
  have HLt := Lib.hid h.lt
  have HGS := Lib.hid (fun w1 => gp_start (w1 := w1) (s := #[.slice A0 n0 C0, .slice A1 n1 C1, .slice A2 n2 C2]) h)
  have R0 := Lib.hid r0
  have R1 := Lib.hid r1
  have R2 := Lib.hid r2
  have HBd := Lib.hid hb
  have E0 := Lib.hid e0
  have E1 := Lib.hid e1
  have E2 := Lib.hid e2
  clear h r0 r1 r2 hb hbel hbw e0 e1 e2
  have hkd : kindOf b o t = 0 → b = o ∧ o = t := fun h => by
    unfold kindOf at h
    by_cases h1 : o = t
    · by_cases h2 : b = o
      · exact ⟨h2, h1⟩
      · simp [h1, h1 ▸ h2] at h
    · rw [if_neg h1] at h
      split at h
      · omega
      · split at h <;> omega
  have HKd := Lib.hid hkd
  clear hkd
  obtain ⟨kd, hk⟩ : ∃ k, k = kindOf b o t := ⟨_, rfl⟩
  rw [← hk] at HC HKd
  have HK := Lib.hid hk
  clear hk
  by_cases hz : n0 + n1 + n2 = 0
  · have hz' : ((n0 : Int) + (n1 : Int) + (n2 : Int) == 0) = true := by simp; omega
    have HN : Hid (addC (cv.map Cv.ch) (gapC b o t) = cv.map Cv.ch) := Lib.hid (addC_none _ _ (by simp only [gapC]; rw [E0.out, E1.out, E2.out]; exact hz))
    clear hz
    go_enter Try.func31, Try.ntmps31
    go_wp2_with (go_at_call 48; refine HC.out.mono ?_; rintro e w1 ⟨rfl, hb1⟩; have HG := Lib.hid (HGS.out w1 hb1); clear hb1; obtain ⟨c0, c1, c2⟩ := three_cells HG.out.cells)
    go_end0
    exact ⟨rfl, Lib.hid ⟨_, _, HN.out.symm, HG.out.pc⟩, Lib.hid HG.out.bel, Lib.hid HG.out.kp⟩
  · have hz' : ((n0 : Int) + (n1 : Int) + (n2 : Int) == 0) = false := by simp; omega
    have hz2 : ¬ b.length + o.length + t.length = 0 := by rw [E0.out, E1.out, E2.out]; exact hz
    by_cases hk0 : kd = 0
    · subst hk0
      obtain ⟨e1, e2⟩ := HKd.out rfl
      have HN : Hid (addC (cv.map Cv.ch) (gapC b o t) = sameC (cv.map Cv.ch) b b b) := Lib.hid (by rw [addC_same _ _ (by exact hz2) HK.out.symm]; simp only [gapC]; rw [← e2, ← e1])
      have HS := Lib.hid (fun (w1 : World) (hg : Gp w B P w.heap.size v cv #[.slice A0 n0 C0, .slice A1 n1 C1, .slice A2 n2 C2] [] w1) => by
        have hlt := hg.pc.lt
        have hB' := hg.pc.hB
        obtain ⟨K, hs⟩ := Src.of_below (rs := rws cv) (R0.out.below hg.bel) (show B ≤ w1.heap.size by omega)
        exact same_any B P K v cv A0 n0 C0 b w1 hg.pc hs hl (by omega) HBd.out)
      clear hz hz2 e1 e2 HKd HK
      go_enter Try.func31, Try.ntmps31
      go_wp2_with (first
        | (go_at_call 48; refine HC.out.mono ?_; rintro e w1 ⟨rfl, hb1⟩; have HG := Lib.hid (HGS.out w1 hb1); clear hb1; obtain ⟨c0, c1, c2⟩ := three_cells HG.out.cells)
        | (go_at_call 33; refine (HS.out w1 HG.out).mono ?_; rintro e w2 ⟨rfl, hp, hb2, hk2⟩))
      go_end0
      exact ⟨rfl, by rw [HN.out]; exact hp, Lib.hid (HG.out.bel.trans hb2.out), Lib.hid (HG.out.kp.trans hk2.out)⟩
    · have hk0' : (kd == 0) = false := by simpa using hk0
      have HN : Hid (addC (cv.map Cv.ch) (gapC b o t) = cv.map Cv.ch ++ [⟨kd, b, o, t⟩]) := Lib.hid (by rw [addC_other _ _ (by exact hz2) (by show kindOf b o t ≠ 0; rw [← HK.out]; exact hk0)]; simp only [gapC]; rw [← HK.out])
      clear hz hz2 HKd HK hk0
      go_enter Try.func31, Try.ntmps31
      go_wp2_with (go_at_call 48; refine HC.out.mono ?_; rintro e w1 ⟨rfl, hb1⟩; have HG := Lib.hid (HGS.out w1 hb1); clear hb1; obtain ⟨c0, c1, c2⟩ := three_cells HG.out.cells)
      have dG := Lib.hid HG.out.drew
      have dC := Lib.hid (three_cells dG.out.cells)
      have p1 := cell_of_one dG.out.pc.p
      have HC0 := Lib.hid (fun (wx : World) rs (hg : Gp w B P w.heap.size v cv #[.slice A0 n0 C0, .slice A1 n1 C1, .slice A2 n2 C2] rs wx) => clone_any A0 n0 C0 b wx (hg.src R0.out) l0)
      have HC1 := Lib.hid (fun (wx : World) rs (hg : Gp w B P w.heap.size v cv #[.slice A0 n0 C0, .slice A1 n1 C1, .slice A2 n2 C2] rs wx) => clone_any A1 n1 C1 o wx (hg.src R1.out) l1)
      have HC2 := Lib.hid (fun (wx : World) rs (hg : Gp w B P w.heap.size v cv #[.slice A0 n0 C0, .slice A1 n1 C1, .slice A2 n2 C2] rs wx) => clone_any A2 n2 C2 t wx (hg.src R2.out) l2)
      have HZ := Lib.hid (fun A3 A4 A5 (m3 m4 m5 C3 C4 C5 : Nat) u (hu : u ∈ [Value.int .i64 kd, .slice A3 m3 C3, .slice A4 m4 C4, .slice A5 m5 C5]) => (by simp only [List.mem_cons, List.not_mem_nil, or_false] at hu; rcases hu with rfl | rfl | rfl | rfl <;> rfl : u.oneCell' = true))
      clear c0 c1 c2 HG HGS HC
      refine wp_region_noPanic ?_
      refine wp_region_held_drew (S := (fun wS => wS.cell? ⟨w.heap.size, 0, none⟩ = some (.slice A0 n0 C0) ∧ wS.cell? ⟨w.heap.size, 1, none⟩ = some (.slice A1 n1 C1) ∧ wS.cell? ⟨w.heap.size, 2, none⟩ = some (.slice A2 n2 C2))) (by kernel_rfl) ?_ (fun hHeld => ?_)
      · ((try dsimp only); exact dC.out)
      refine wpAnyH_take (i := 0) (oi := { dst := some 7, op := Op.move (Operand.tmp 0), type := 83, pos := "merge3.go:98", after := #[], guard := none }) (v := ?_) rfl (by kernel_rfl) (by kernel_rfl) (by kernel_rfl) (fun _ _ _ h => h) (Or.inl ⟨by rfl, ?_⟩) (by assumption) ?_
      rotate_left 1
      · ((intro w hSw; (try dsimp only at hSw); go_simp) <;> with_reducible rfl)
      (try simp only [Act.put, List.setIfInBounds_toArray, List.set_cons_zero, List.set_cons_succ])
      refine wpAnyH_take (i := 1) (oi := { dst := some 8, op := Op.move (Operand.tmp 0), type := 83, pos := "merge3.go:98", after := #[], guard := none }) (v := ?_) rfl (by kernel_rfl) (by kernel_rfl) (by kernel_rfl) (fun _ _ _ h => h) (Or.inl ⟨by rfl, ?_⟩) (by assumption) ?_
      rotate_left 1
      · ((intro w hSw; (try dsimp only at hSw); go_simp) <;> with_reducible rfl)
      (try simp only [Act.put, List.setIfInBounds_toArray, List.set_cons_zero, List.set_cons_succ])
      refine wpAnyH_take (i := 2) (oi := { dst := some 9, op := Op.nilCheck (Operand.tmp 8), type := 0, pos := "merge3.go:98", after := #[{ on := 1, ground := Ground.data }], guard := none }) (v := ?_) rfl (by kernel_rfl) (by kernel_rfl) (by kernel_rfl) (fun _ _ _ h => h) (Or.inl ⟨by rfl, ?_⟩) (by assumption) ?_
      rotate_left 1
      · ((intro w hSw; (try dsimp only at hSw); go_simp) <;> with_reducible rfl)
      (try simp only [Act.put, List.setIfInBounds_toArray, List.set_cons_zero, List.set_cons_succ])
      refine wpAnyH_take (i := 4) (oi := { dst := some 11, op := Op.move (Operand.tmp 4), type := 3, pos := "merge3.go:98", after := #[], guard := none }) (v := ?_) rfl (by kernel_rfl) (by kernel_rfl) (by kernel_rfl) (fun _ _ _ h => h) (Or.inl ⟨by rfl, ?_⟩) (by assumption) ?_
      rotate_left 1
      · ((intro w hSw; (try dsimp only at hSw); go_simp) <;> with_reducible rfl)
      (try simp only [Act.put, List.setIfInBounds_toArray, List.set_cons_zero, List.set_cons_succ])
      refine wpAnyH_take (i := 5) (oi := { dst := some 12, op := Op.indexAddr 59 (Operand.tmp 3) (Operand.const (Value.int IntKind.i64 0)), type := 0, pos := "merge3.go:98", after := #[], guard := none }) (v := ?_) rfl (by kernel_rfl) (by kernel_rfl) (by kernel_rfl) (fun _ _ _ h => h) (Or.inl ⟨by rfl, ?_⟩) (by assumption) ?_
      rotate_left 1
      · ((intro w hSw; (try dsimp only at hSw); go_simp) <;> with_reducible rfl)
      (try simp only [Act.put, List.setIfInBounds_toArray, List.set_cons_zero, List.set_cons_succ])
      refine wpAnyH_take (i := 6) (oi := { dst := some 13, op := Op.load 22 (Operand.tmp 12), type := 22, pos := "merge3.go:98", after := #[{ on := 5, ground := Ground.data }], guard := none }) (v := ?_) rfl (by kernel_rfl) (by kernel_rfl) (by kernel_rfl) (fun _ _ _ h => h) (Or.inl ⟨by rfl, ?_⟩) (by assumption) ?_
      rotate_left 1
      · ((intro w hSw; (try dsimp only at hSw); go_simp) <;> with_reducible rfl)
      (try simp only [Act.put, List.setIfInBounds_toArray, List.set_cons_zero, List.set_cons_succ])
      refine wpAnyH_take (i := 8) (oi := { dst := some 15, op := Op.indexAddr 59 (Operand.tmp 3) (Operand.const (Value.int IntKind.i64 1)), type := 0, pos := "merge3.go:98", after := #[], guard := none }) (v := ?_) rfl (by kernel_rfl) (by kernel_rfl) (by kernel_rfl) (fun _ _ _ h => h) (Or.inl ⟨by rfl, ?_⟩) (by assumption) ?_
      rotate_left 1
      · ((intro w hSw; (try dsimp only at hSw); go_simp) <;> with_reducible rfl)
      (try simp only [Act.put, List.setIfInBounds_toArray, List.set_cons_zero, List.set_cons_succ])
      refine wpAnyH_take (i := 9) (oi := { dst := some 16, op := Op.load 22 (Operand.tmp 15), type := 22, pos := "merge3.go:98", after := #[{ on := 8, ground := Ground.data }], guard := none }) (v := ?_) rfl (by kernel_rfl) (by kernel_rfl) (by kernel_rfl) (fun _ _ _ h => h) (Or.inl ⟨by rfl, ?_⟩) (by assumption) ?_
      rotate_left 1
      · ((intro w hSw; (try dsimp only at hSw); go_simp) <;> with_reducible rfl)
      (try simp only [Act.put, List.setIfInBounds_toArray, List.set_cons_zero, List.set_cons_succ])
      refine wpAnyH_take (i := 11) (oi := { dst := some 18, op := Op.indexAddr 59 (Operand.tmp 3) (Operand.const (Value.int IntKind.i64 2)), type := 0, pos := "merge3.go:98", after := #[], guard := none }) (v := ?_) rfl (by kernel_rfl) (by kernel_rfl) (by kernel_rfl) (fun _ _ _ h => h) (Or.inl ⟨by rfl, ?_⟩) (by assumption) ?_
      rotate_left 1
      · ((intro w hSw; (try dsimp only at hSw); go_simp) <;> with_reducible rfl)
      (try simp only [Act.put, List.setIfInBounds_toArray, List.set_cons_zero, List.set_cons_succ])
      refine wpAnyH_take (i := 12) (oi := { dst := some 19, op := Op.load 22 (Operand.tmp 18), type := 22, pos := "merge3.go:98", after := #[{ on := 11, ground := Ground.data }], guard := none }) (v := ?_) rfl (by kernel_rfl) (by kernel_rfl) (by kernel_rfl) (fun _ _ _ h => h) (Or.inl ⟨by rfl, ?_⟩) (by assumption) ?_
      rotate_left 1
      · ((intro w hSw; (try dsimp only at hSw); go_simp) <;> with_reducible rfl)
      (try simp only [Act.put, List.setIfInBounds_toArray, List.set_cons_zero, List.set_cons_succ])
      refine wpAnyH_ready (rs := [3, 7]) (by kernel_rfl) (by simp) ?_
      refine AllReadyH.cons (o := { dst := some 10, op := Op.load 57 (Operand.tmp 9), type := 57, pos := "merge3.go:98", after := #[{ on := 2, ground := Ground.data }], guard := none }) rfl (fun K hK => ?_) ?_
      · go_simp
        skip
        (try go_wp2_with fail)
        refine hK.out _ _ ?_ (fun hNew => ?_)
        · ((try dsimp only); first | exact dC.out | exact dCs.out _)
        clear hK K hHeld
        have hHeld := hNew
        clear hNew
        (try simp only [Act.put, List.setIfInBounds_toArray, List.set_cons_zero, List.set_cons_succ])
        refine wpAnyH_ready (rs := [7]) (by kernel_rfl) (by simp) ?_
        refine AllReadyH.cons (o := { dst := some 14, op := Op.call { callee := Callee.value (Operand.func 49), args := #[Operand.tmp 13], argTypes := #[22] }, type := 22, pos := "merge3.go:98", after := #[{ on := 6, ground := Ground.data }], guard := none }) rfl (fun K hK => ?_) ?_
        · go_simp
          refine (HC0.out _ _ dG.out).mono ?_
          rintro e wB hr
          obtain ⟨A3, C3, rfl, hg⟩ := dG.out.clone hr
          have dG2 := Lib.hid hg
          have dC2 := Lib.hid (three_cells hg.cells)
          clear hr hg dG dC p1
          have dG := dG2
          have dC := dC2
          have p1 := cell_of_one dG.out.pc.p
          clear dG2 dC2
          (try go_wp2_with fail)
          refine hK.out _ _ ?_ (fun hNew => ?_)
          · ((try dsimp only); first | exact dC.out | exact dCs.out _)
          clear hK K hHeld
          have hHeld := hNew
          clear hNew
          (try simp only [Act.put, List.setIfInBounds_toArray, List.set_cons_zero, List.set_cons_succ])
          refine wpAnyH_ready (rs := [10]) (by kernel_rfl) (by simp) ?_
          refine AllReadyH.cons (o := { dst := some 17, op := Op.call { callee := Callee.value (Operand.func 49), args := #[Operand.tmp 16], argTypes := #[22] }, type := 22, pos := "merge3.go:98", after := #[{ on := 9, ground := Ground.data }, { on := 7, ground := Ground.chain }], guard := none }) rfl (fun K hK => ?_) ?_
          · go_simp
            refine (HC1.out _ _ dG.out).mono ?_
            rintro e wB hr
            obtain ⟨A4, C4, rfl, hg⟩ := dG.out.clone hr
            have dG2 := Lib.hid hg
            have dC2 := Lib.hid (three_cells hg.cells)
            clear hr hg dG dC p1
            have dG := dG2
            have dC := dC2
            have p1 := cell_of_one dG.out.pc.p
            clear dG2 dC2
            (try go_wp2_with fail)
            refine hK.out _ _ ?_ (fun hNew => ?_)
            · ((try dsimp only); first | exact dC.out | exact dCs.out _)
            clear hK K hHeld
            have hHeld := hNew
            clear hNew
            (try simp only [Act.put, List.setIfInBounds_toArray, List.set_cons_zero, List.set_cons_succ])
            refine wpAnyH_ready (rs := [13]) (by kernel_rfl) (by simp) ?_
            refine AllReadyH.cons (o := { dst := some 20, op := Op.call { callee := Callee.value (Operand.func 49), args := #[Operand.tmp 19], argTypes := #[22] }, type := 22, pos := "merge3.go:98", after := #[{ on := 12, ground := Ground.data }, { on := 10, ground := Ground.chain }], guard := none }) rfl (fun K hK => ?_) ?_
            · go_simp
              refine (HC2.out _ _ dG.out).mono ?_
              rintro e wB hr
              obtain ⟨A5, C5, rfl, hg⟩ := dG.out.clone hr
              have dG2 := Lib.hid hg
              have dC2 := Lib.hid (three_cells hg.cells)
              clear hr hg dG dC p1
              have dG := dG2
              have dC := dC2
              have p1 := cell_of_one dG.out.pc.p
              clear dG2 dC2
              (try go_wp2_with fail)
              refine hK.out _ _ ?_ (fun hNew => ?_)
              · ((try dsimp only); first | exact dC.out | exact dCs.out _)
              clear hK K hHeld
              have hHeld := hNew
              clear hNew
              (try simp only [Act.put, List.setIfInBounds_toArray, List.set_cons_zero, List.set_cons_succ])
              refine wpAnyH_take (i := 14) (oi := { dst := some 21, op := Op.build 37 #[(0, Operand.tmp 11), (1, Operand.tmp 14), (2, Operand.tmp 17), (3, Operand.tmp 20)], type := 37, pos := "merge3.go:98", after := #[{ on := 4, ground := Ground.data }, { on := 7, ground := Ground.data }, { on := 10, ground := Ground.data }, { on := 13, ground := Ground.data }], guard := none }) (v := ?_) rfl (by kernel_rfl) (by kernel_rfl) (by kernel_rfl) (fun _ _ _ h => h) (Or.inl ⟨by rfl, ?_⟩) (by assumption) ?_
              rotate_left 1
              · ((intro w hSw; (try dsimp only at hSw); go_simp) <;> with_reducible rfl)
              (try simp only [Act.put, List.setIfInBounds_toArray, List.set_cons_zero, List.set_cons_succ])
              refine wpAnyH_ready (rs := [15]) (by kernel_rfl) (by simp) ?_
              refine AllReadyH.cons (o := { dst := some 22, op := Op.buildSlice 57 1 #[(0, Operand.tmp 21)], type := 57, pos := "merge3.go:98", after := #[{ on := 14, ground := Ground.data }], guard := none }) rfl (fun K hK => ?_) ?_
              · go_simp
                have hG2 := dG.out.mv (.cells #[.int .i64 kd, .slice A3 b.length C3, .slice A4 o.length C4, .slice A5 t.length C5] 37)
                have dN := Lib.hid (heap_alloc_new wB (.cells #[.int .i64 kd, .slice A3 b.length C3, .slice A4 o.length C4, .slice A5 t.length C5] 37))
                have dO := Lib.hid hG2.pc.own
                have hBz : B ≤ (wB.alloc (.cells #[.int .i64 kd, .slice A3 b.length C3, .slice A4 o.length C4, .slice A5 t.length C5] 37)).heap.size := by have := hG2.pc.hB; have := hG2.pc.lt; omega
                have dC2 := Lib.hid (three_cells hG2.cells)
                clear dC p1
                have dC := dC2
                have p1 := cell_of_one hG2.pc.p
                clear dC2 hG2
                (try go_wp2_with fail)
                refine hK.out _ _ ?_ (fun hNew => ?_)
                · ((try dsimp only); first | exact dC.out | exact dCs.out _)
                clear hK K hHeld
                have hHeld := hNew
                clear hNew
                (try simp only [Act.put, List.setIfInBounds_toArray, List.set_cons_zero, List.set_cons_succ])
                refine wpAnyH_ready (rs := [16]) (by kernel_rfl) (by simp) ?_
                refine AllReadyH.cons (o := { dst := some 23, op := Op.call { callee := Callee.builtin Builtin.append, args := #[Operand.tmp 10, Operand.tmp 22], argTypes := #[57, 57] }, type := 57, pos := "merge3.go:98", after := #[{ on := 3, ground := Ground.data }, { on := 15, ground := Ground.data }, { on := 13, ground := Ground.chain }], guard := none }) rfl (fun K hK => ?_) ?_
                · refine step_append_ch und_pieces _ rfl (.tmp 10) (.tmp 22) rfl B v cv.length (cvs cv) rfl dO.out wB.heap.size ⟨kd, .slice A3 b.length C3, .slice A4 o.length C4, .slice A5 t.length C5, b, o, t⟩ rfl dN.out (HZ.out _ _ _ _ _ _ _ _ _) (by omega) hBz ?_
                  intro A9 C9 wE hoE hgE hsE
                  have hkE := ((Kp.refl [37] wB).alloc (.cells #[.int .i64 kd, .slice A3 b.length C3, .slice A4 o.length C4, .slice A5 t.length C5] 37)).grown dO.out hgE (by simp)
                  have hp2 := hkE.block _ _ _ _ dG.out.pc.p (by decide)
                  have hcl := hkE.block _ _ _ _ dG.out.cells (by decide)
                  have hne : w.heap.size ≠ P := by have := HLt.out; omega
                  clear p1 dC
                  have p1 := cell_of_one hp2
                  have f1 := free_of_one hp2
                  have dC := Lib.hid (three_cells hcl)
                  have dCs := Lib.hid (fun u => three_cells ((Below.heap_setCell wE ⟨P, 0, none⟩ u w.heap.size hne).trans hcl))
                  have hfin := dG.out.pc.push (v' := .slice A9 (cv.length + 1) C9) (c := ⟨kd, .slice A3 b.length C3, .slice A4 o.length C4, .slice A5 t.length C5, b, o, t⟩) (by exact dG.out.rows) hoE hgE
                  have HFin := Lib.hid hfin
                  clear hoE hgE hsE hkE hp2 hcl hne hfin
                  (try go_wp2_with fail)
                  refine hK.out _ _ ?_ (fun hNew => ?_)
                  · ((try dsimp only); first | exact dC.out | exact dCs.out _)
                  clear hK K hHeld
                  have hHeld := hNew
                  clear hNew
                  (try simp only [Act.put, List.setIfInBounds_toArray, List.set_cons_zero, List.set_cons_succ])
                  refine wpAnyH_take (i := 17) (oi := { dst := some 24, op := Op.nilCheck (Operand.tmp 7), type := 0, pos := "merge3.go:98", after := #[{ on := 0, ground := Ground.data }, { on := 0, ground := Ground.phase }, { on := 1, ground := Ground.phase }, { on := 2, ground := Ground.phase }, { on := 3, ground := Ground.phase }, { on := 4, ground := Ground.phase }, { on := 5, ground := Ground.phase }, { on := 6, ground := Ground.phase }, { on := 7, ground := Ground.phase }, { on := 8, ground := Ground.phase }, { on := 9, ground := Ground.phase }, { on := 10, ground := Ground.phase }, { on := 11, ground := Ground.phase }, { on := 12, ground := Ground.phase }, { on := 13, ground := Ground.phase }, { on := 14, ground := Ground.phase }, { on := 15, ground := Ground.phase }, { on := 16, ground := Ground.phase }], guard := none }) (v := ?_) rfl (by kernel_rfl) (by kernel_rfl) (by kernel_rfl) (fun _ _ _ h => h) (Or.inl ⟨by rfl, ?_⟩) (by assumption) ?_
                  rotate_left 1
                  · ((intro w hSw; (try dsimp only at hSw); go_simp) <;> with_reducible rfl)
                  (try simp only [Act.put, List.setIfInBounds_toArray, List.set_cons_zero, List.set_cons_succ])
                  refine wpAnyH_ready (rs := [18]) (by kernel_rfl) (by simp) ?_
                  refine AllReadyH.cons (o := { dst := none, op := Op.store 57 (Operand.tmp 24) (Operand.tmp 23), type := 0, pos := "merge3.go:98", after := #[{ on := 17, ground := Ground.data }, { on := 16, ground := Ground.data }, { on := 16, ground := Ground.chain }, { on := 0, ground := Ground.phase }, { on := 1, ground := Ground.phase }, { on := 2, ground := Ground.phase }, { on := 3, ground := Ground.phase }, { on := 4, ground := Ground.phase }, { on := 5, ground := Ground.phase }, { on := 6, ground := Ground.phase }, { on := 7, ground := Ground.phase }, { on := 8, ground := Ground.phase }, { on := 9, ground := Ground.phase }, { on := 10, ground := Ground.phase }, { on := 11, ground := Ground.phase }, { on := 12, ground := Ground.phase }, { on := 13, ground := Ground.phase }, { on := 14, ground := Ground.phase }, { on := 15, ground := Ground.phase }, { on := 16, ground := Ground.phase }], guard := none }) rfl (fun K hK => ?_) ?_
                  · go_simp
                    refine hK.out _ _ ?_ (fun hNew => ?_)
                    · ((try dsimp only); first | exact dC.out | exact dCs.out _)
                    clear hK K hHeld
                    have hHeld := hNew
                    clear hNew
                    (try simp only [Act.put, List.setIfInBounds_toArray, List.set_cons_zero, List.set_cons_succ])
                    refine wpAnyH_done (by kernel_rfl) ?_ _
                    refine NoPanic.normal ?_
                    go_wp2_with fail
                    go_end0
                    exact ⟨rfl, Lib.hid ⟨_, _, by rw [HN.out, List.map_append]; rfl, HFin.out.1⟩, Lib.hid (dG.out.bel.trans HFin.out.2.1), Lib.hid (dG.out.kp.trans HFin.out.2.2)⟩
                  exact AllReadyH.nil
                exact AllReadyH.nil
              exact AllReadyH.nil
            exact AllReadyH.nil
          exact AllReadyH.nil
        exact AllReadyH.nil
      refine AllReadyH.cons (o := { dst := some 14, op := Op.call { callee := Callee.value (Operand.func 49), args := #[Operand.tmp 13], argTypes := #[22] }, type := 22, pos := "merge3.go:98", after := #[{ on := 6, ground := Ground.data }], guard := none }) rfl (fun K hK => ?_) ?_
      · go_simp
        refine (HC0.out _ _ dG.out).mono ?_
        rintro e wB hr
        obtain ⟨A3, C3, rfl, hg⟩ := dG.out.clone hr
        have dG2 := Lib.hid hg
        have dC2 := Lib.hid (three_cells hg.cells)
        clear hr hg dG dC p1
        have dG := dG2
        have dC := dC2
        have p1 := cell_of_one dG.out.pc.p
        clear dG2 dC2
        (try go_wp2_with fail)
        refine hK.out _ _ ?_ (fun hNew => ?_)
        · ((try dsimp only); first | exact dC.out | exact dCs.out _)
        clear hK K hHeld
        have hHeld := hNew
        clear hNew
        (try simp only [Act.put, List.setIfInBounds_toArray, List.set_cons_zero, List.set_cons_succ])
        refine wpAnyH_ready (rs := [3, 10]) (by kernel_rfl) (by simp) ?_
        refine AllReadyH.cons (o := { dst := some 10, op := Op.load 57 (Operand.tmp 9), type := 57, pos := "merge3.go:98", after := #[{ on := 2, ground := Ground.data }], guard := none }) rfl (fun K hK => ?_) ?_
        · go_simp
          skip
          (try go_wp2_with fail)
          refine hK.out _ _ ?_ (fun hNew => ?_)
          · ((try dsimp only); first | exact dC.out | exact dCs.out _)
          clear hK K hHeld
          have hHeld := hNew
          clear hNew
          (try simp only [Act.put, List.setIfInBounds_toArray, List.set_cons_zero, List.set_cons_succ])
          refine wpAnyH_ready (rs := [10]) (by kernel_rfl) (by simp) ?_
          refine AllReadyH.cons (o := { dst := some 17, op := Op.call { callee := Callee.value (Operand.func 49), args := #[Operand.tmp 16], argTypes := #[22] }, type := 22, pos := "merge3.go:98", after := #[{ on := 9, ground := Ground.data }, { on := 7, ground := Ground.chain }], guard := none }) rfl (fun K hK => ?_) ?_
          · go_simp
            refine (HC1.out _ _ dG.out).mono ?_
            rintro e wB hr
            obtain ⟨A4, C4, rfl, hg⟩ := dG.out.clone hr
            have dG2 := Lib.hid hg
            have dC2 := Lib.hid (three_cells hg.cells)
            clear hr hg dG dC p1
            have dG := dG2
            have dC := dC2
            have p1 := cell_of_one dG.out.pc.p
            clear dG2 dC2
            (try go_wp2_with fail)
            refine hK.out _ _ ?_ (fun hNew => ?_)
            · ((try dsimp only); first | exact dC.out | exact dCs.out _)
            clear hK K hHeld
            have hHeld := hNew
            clear hNew
            (try simp only [Act.put, List.setIfInBounds_toArray, List.set_cons_zero, List.set_cons_succ])
            refine wpAnyH_ready (rs := [13]) (by kernel_rfl) (by simp) ?_
            refine AllReadyH.cons (o := { dst := some 20, op := Op.call { callee := Callee.value (Operand.func 49), args := #[Operand.tmp 19], argTypes := #[22] }, type := 22, pos := "merge3.go:98", after := #[{ on := 12, ground := Ground.data }, { on := 10, ground := Ground.chain }], guard := none }) rfl (fun K hK => ?_) ?_
            · go_simp
              refine (HC2.out _ _ dG.out).mono ?_
              rintro e wB hr
              obtain ⟨A5, C5, rfl, hg⟩ := dG.out.clone hr
              have dG2 := Lib.hid hg
              have dC2 := Lib.hid (three_cells hg.cells)
              clear hr hg dG dC p1
              have dG := dG2
              have dC := dC2
              have p1 := cell_of_one dG.out.pc.p
              clear dG2 dC2
              (try go_wp2_with fail)
              refine hK.out _ _ ?_ (fun hNew => ?_)
              · ((try dsimp only); first | exact dC.out | exact dCs.out _)
              clear hK K hHeld
              have hHeld := hNew
              clear hNew
              (try simp only [Act.put, List.setIfInBounds_toArray, List.set_cons_zero, List.set_cons_succ])
              refine wpAnyH_take (i := 14) (oi := { dst := some 21, op := Op.build 37 #[(0, Operand.tmp 11), (1, Operand.tmp 14), (2, Operand.tmp 17), (3, Operand.tmp 20)], type := 37, pos := "merge3.go:98", after := #[{ on := 4, ground := Ground.data }, { on := 7, ground := Ground.data }, { on := 10, ground := Ground.data }, { on := 13, ground := Ground.data }], guard := none }) (v := ?_) rfl (by kernel_rfl) (by kernel_rfl) (by kernel_rfl) (fun _ _ _ h => h) (Or.inl ⟨by rfl, ?_⟩) (by assumption) ?_
              rotate_left 1
              · ((intro w hSw; (try dsimp only at hSw); go_simp) <;> with_reducible rfl)
              (try simp only [Act.put, List.setIfInBounds_toArray, List.set_cons_zero, List.set_cons_succ])
              refine wpAnyH_ready (rs := [15]) (by kernel_rfl) (by simp) ?_
              refine AllReadyH.cons (o := { dst := some 22, op := Op.buildSlice 57 1 #[(0, Operand.tmp 21)], type := 57, pos := "merge3.go:98", after := #[{ on := 14, ground := Ground.data }], guard := none }) rfl (fun K hK => ?_) ?_
              · go_simp
                have hG2 := dG.out.mv (.cells #[.int .i64 kd, .slice A3 b.length C3, .slice A4 o.length C4, .slice A5 t.length C5] 37)
                have dN := Lib.hid (heap_alloc_new wB (.cells #[.int .i64 kd, .slice A3 b.length C3, .slice A4 o.length C4, .slice A5 t.length C5] 37))
                have dO := Lib.hid hG2.pc.own
                have hBz : B ≤ (wB.alloc (.cells #[.int .i64 kd, .slice A3 b.length C3, .slice A4 o.length C4, .slice A5 t.length C5] 37)).heap.size := by have := hG2.pc.hB; have := hG2.pc.lt; omega
                have dC2 := Lib.hid (three_cells hG2.cells)
                clear dC p1
                have dC := dC2
                have p1 := cell_of_one hG2.pc.p
                clear dC2 hG2
                (try go_wp2_with fail)
                refine hK.out _ _ ?_ (fun hNew => ?_)
                · ((try dsimp only); first | exact dC.out | exact dCs.out _)
                clear hK K hHeld
                have hHeld := hNew
                clear hNew
                (try simp only [Act.put, List.setIfInBounds_toArray, List.set_cons_zero, List.set_cons_succ])
                refine wpAnyH_ready (rs := [16]) (by kernel_rfl) (by simp) ?_
                refine AllReadyH.cons (o := { dst := some 23, op := Op.call { callee := Callee.builtin Builtin.append, args := #[Operand.tmp 10, Operand.tmp 22], argTypes := #[57, 57] }, type := 57, pos := "merge3.go:98", after := #[{ on := 3, ground := Ground.data }, { on := 15, ground := Ground.data }, { on := 13, ground := Ground.chain }], guard := none }) rfl (fun K hK => ?_) ?_
                · refine step_append_ch und_pieces _ rfl (.tmp 10) (.tmp 22) rfl B v cv.length (cvs cv) rfl dO.out wB.heap.size ⟨kd, .slice A3 b.length C3, .slice A4 o.length C4, .slice A5 t.length C5, b, o, t⟩ rfl dN.out (HZ.out _ _ _ _ _ _ _ _ _) (by omega) hBz ?_
                  intro A9 C9 wE hoE hgE hsE
                  have hkE := ((Kp.refl [37] wB).alloc (.cells #[.int .i64 kd, .slice A3 b.length C3, .slice A4 o.length C4, .slice A5 t.length C5] 37)).grown dO.out hgE (by simp)
                  have hp2 := hkE.block _ _ _ _ dG.out.pc.p (by decide)
                  have hcl := hkE.block _ _ _ _ dG.out.cells (by decide)
                  have hne : w.heap.size ≠ P := by have := HLt.out; omega
                  clear p1 dC
                  have p1 := cell_of_one hp2
                  have f1 := free_of_one hp2
                  have dC := Lib.hid (three_cells hcl)
                  have dCs := Lib.hid (fun u => three_cells ((Below.heap_setCell wE ⟨P, 0, none⟩ u w.heap.size hne).trans hcl))
                  have hfin := dG.out.pc.push (v' := .slice A9 (cv.length + 1) C9) (c := ⟨kd, .slice A3 b.length C3, .slice A4 o.length C4, .slice A5 t.length C5, b, o, t⟩) (by exact dG.out.rows) hoE hgE
                  have HFin := Lib.hid hfin
                  clear hoE hgE hsE hkE hp2 hcl hne hfin
                  (try go_wp2_with fail)
                  refine hK.out _ _ ?_ (fun hNew => ?_)
                  · ((try dsimp only); first | exact dC.out | exact dCs.out _)
                  clear hK K hHeld
                  have hHeld := hNew
                  clear hNew
                  (try simp only [Act.put, List.setIfInBounds_toArray, List.set_cons_zero, List.set_cons_succ])
                  refine wpAnyH_take (i := 17) (oi := { dst := some 24, op := Op.nilCheck (Operand.tmp 7), type := 0, pos := "merge3.go:98", after := #[{ on := 0, ground := Ground.data }, { on := 0, ground := Ground.phase }, { on := 1, ground := Ground.phase }, { on := 2, ground := Ground.phase }, { on := 3, ground := Ground.phase }, { on := 4, ground := Ground.phase }, { on := 5, ground := Ground.phase }, { on := 6, ground := Ground.phase }, { on := 7, ground := Ground.phase }, { on := 8, ground := Ground.phase }, { on := 9, ground := Ground.phase }, { on := 10, ground := Ground.phase }, { on := 11, ground := Ground.phase }, { on := 12, ground := Ground.phase }, { on := 13, ground := Ground.phase }, { on := 14, ground := Ground.phase }, { on := 15, ground := Ground.phase }, { on := 16, ground := Ground.phase }], guard := none }) (v := ?_) rfl (by kernel_rfl) (by kernel_rfl) (by kernel_rfl) (fun _ _ _ h => h) (Or.inl ⟨by rfl, ?_⟩) (by assumption) ?_
                  rotate_left 1
                  · ((intro w hSw; (try dsimp only at hSw); go_simp) <;> with_reducible rfl)
                  (try simp only [Act.put, List.setIfInBounds_toArray, List.set_cons_zero, List.set_cons_succ])
                  refine wpAnyH_ready (rs := [18]) (by kernel_rfl) (by simp) ?_
                  refine AllReadyH.cons (o := { dst := none, op := Op.store 57 (Operand.tmp 24) (Operand.tmp 23), type := 0, pos := "merge3.go:98", after := #[{ on := 17, ground := Ground.data }, { on := 16, ground := Ground.data }, { on := 16, ground := Ground.chain }, { on := 0, ground := Ground.phase }, { on := 1, ground := Ground.phase }, { on := 2, ground := Ground.phase }, { on := 3, ground := Ground.phase }, { on := 4, ground := Ground.phase }, { on := 5, ground := Ground.phase }, { on := 6, ground := Ground.phase }, { on := 7, ground := Ground.phase }, { on := 8, ground := Ground.phase }, { on := 9, ground := Ground.phase }, { on := 10, ground := Ground.phase }, { on := 11, ground := Ground.phase }, { on := 12, ground := Ground.phase }, { on := 13, ground := Ground.phase }, { on := 14, ground := Ground.phase }, { on := 15, ground := Ground.phase }, { on := 16, ground := Ground.phase }], guard := none }) rfl (fun K hK => ?_) ?_
                  · go_simp
                    refine hK.out _ _ ?_ (fun hNew => ?_)
                    · ((try dsimp only); first | exact dC.out | exact dCs.out _)
                    clear hK K hHeld
                    have hHeld := hNew
                    clear hNew
                    (try simp only [Act.put, List.setIfInBounds_toArray, List.set_cons_zero, List.set_cons_succ])
                    refine wpAnyH_done (by kernel_rfl) ?_ _
                    refine NoPanic.normal ?_
                    go_wp2_with fail
                    go_end0
                    exact ⟨rfl, Lib.hid ⟨_, _, by rw [HN.out, List.map_append]; rfl, HFin.out.1⟩, Lib.hid (dG.out.bel.trans HFin.out.2.1), Lib.hid (dG.out.kp.trans HFin.out.2.2)⟩
                  exact AllReadyH.nil
                exact AllReadyH.nil
              exact AllReadyH.nil
            exact AllReadyH.nil
          exact AllReadyH.nil
        refine AllReadyH.cons (o := { dst := some 17, op := Op.call { callee := Callee.value (Operand.func 49), args := #[Operand.tmp 16], argTypes := #[22] }, type := 22, pos := "merge3.go:98", after := #[{ on := 9, ground := Ground.data }, { on := 7, ground := Ground.chain }], guard := none }) rfl (fun K hK => ?_) ?_
        · go_simp
          refine (HC1.out _ _ dG.out).mono ?_
          rintro e wB hr
          obtain ⟨A4, C4, rfl, hg⟩ := dG.out.clone hr
          have dG2 := Lib.hid hg
          have dC2 := Lib.hid (three_cells hg.cells)
          clear hr hg dG dC p1
          have dG := dG2
          have dC := dC2
          have p1 := cell_of_one dG.out.pc.p
          clear dG2 dC2
          (try go_wp2_with fail)
          refine hK.out _ _ ?_ (fun hNew => ?_)
          · ((try dsimp only); first | exact dC.out | exact dCs.out _)
          clear hK K hHeld
          have hHeld := hNew
          clear hNew
          (try simp only [Act.put, List.setIfInBounds_toArray, List.set_cons_zero, List.set_cons_succ])
          refine wpAnyH_ready (rs := [3, 13]) (by kernel_rfl) (by simp) ?_
          refine AllReadyH.cons (o := { dst := some 10, op := Op.load 57 (Operand.tmp 9), type := 57, pos := "merge3.go:98", after := #[{ on := 2, ground := Ground.data }], guard := none }) rfl (fun K hK => ?_) ?_
          · go_simp
            skip
            (try go_wp2_with fail)
            refine hK.out _ _ ?_ (fun hNew => ?_)
            · ((try dsimp only); first | exact dC.out | exact dCs.out _)
            clear hK K hHeld
            have hHeld := hNew
            clear hNew
            (try simp only [Act.put, List.setIfInBounds_toArray, List.set_cons_zero, List.set_cons_succ])
            refine wpAnyH_ready (rs := [13]) (by kernel_rfl) (by simp) ?_
            refine AllReadyH.cons (o := { dst := some 20, op := Op.call { callee := Callee.value (Operand.func 49), args := #[Operand.tmp 19], argTypes := #[22] }, type := 22, pos := "merge3.go:98", after := #[{ on := 12, ground := Ground.data }, { on := 10, ground := Ground.chain }], guard := none }) rfl (fun K hK => ?_) ?_
            · go_simp
              refine (HC2.out _ _ dG.out).mono ?_
              rintro e wB hr
              obtain ⟨A5, C5, rfl, hg⟩ := dG.out.clone hr
              have dG2 := Lib.hid hg
              have dC2 := Lib.hid (three_cells hg.cells)
              clear hr hg dG dC p1
              have dG := dG2
              have dC := dC2
              have p1 := cell_of_one dG.out.pc.p
              clear dG2 dC2
              (try go_wp2_with fail)
              refine hK.out _ _ ?_ (fun hNew => ?_)
              · ((try dsimp only); first | exact dC.out | exact dCs.out _)
              clear hK K hHeld
              have hHeld := hNew
              clear hNew
              (try simp only [Act.put, List.setIfInBounds_toArray, List.set_cons_zero, List.set_cons_succ])
              refine wpAnyH_take (i := 14) (oi := { dst := some 21, op := Op.build 37 #[(0, Operand.tmp 11), (1, Operand.tmp 14), (2, Operand.tmp 17), (3, Operand.tmp 20)], type := 37, pos := "merge3.go:98", after := #[{ on := 4, ground := Ground.data }, { on := 7, ground := Ground.data }, { on := 10, ground := Ground.data }, { on := 13, ground := Ground.data }], guard := none }) (v := ?_) rfl (by kernel_rfl) (by kernel_rfl) (by kernel_rfl) (fun _ _ _ h => h) (Or.inl ⟨by rfl, ?_⟩) (by assumption) ?_
              rotate_left 1
              · ((intro w hSw; (try dsimp only at hSw); go_simp) <;> with_reducible rfl)
              (try simp only [Act.put, List.setIfInBounds_toArray, List.set_cons_zero, List.set_cons_succ])
              refine wpAnyH_ready (rs := [15]) (by kernel_rfl) (by simp) ?_
              refine AllReadyH.cons (o := { dst := some 22, op := Op.buildSlice 57 1 #[(0, Operand.tmp 21)], type := 57, pos := "merge3.go:98", after := #[{ on := 14, ground := Ground.data }], guard := none }) rfl (fun K hK => ?_) ?_
              · go_simp
                have hG2 := dG.out.mv (.cells #[.int .i64 kd, .slice A3 b.length C3, .slice A4 o.length C4, .slice A5 t.length C5] 37)
                have dN := Lib.hid (heap_alloc_new wB (.cells #[.int .i64 kd, .slice A3 b.length C3, .slice A4 o.length C4, .slice A5 t.length C5] 37))
                have dO := Lib.hid hG2.pc.own
                have hBz : B ≤ (wB.alloc (.cells #[.int .i64 kd, .slice A3 b.length C3, .slice A4 o.length C4, .slice A5 t.length C5] 37)).heap.size := by have := hG2.pc.hB; have := hG2.pc.lt; omega
                have dC2 := Lib.hid (three_cells hG2.cells)
                clear dC p1
                have dC := dC2
                have p1 := cell_of_one hG2.pc.p
                clear dC2 hG2
                (try go_wp2_with fail)
                refine hK.out _ _ ?_ (fun hNew => ?_)
                · ((try dsimp only); first | exact dC.out | exact dCs.out _)
                clear hK K hHeld
                have hHeld := hNew
                clear hNew
                (try simp only [Act.put, List.setIfInBounds_toArray, List.set_cons_zero, List.set_cons_succ])
                refine wpAnyH_ready (rs := [16]) (by kernel_rfl) (by simp) ?_
                refine AllReadyH.cons (o := { dst := some 23, op := Op.call { callee := Callee.builtin Builtin.append, args := #[Operand.tmp 10, Operand.tmp 22], argTypes := #[57, 57] }, type := 57, pos := "merge3.go:98", after := #[{ on := 3, ground := Ground.data }, { on := 15, ground := Ground.data }, { on := 13, ground := Ground.chain }], guard := none }) rfl (fun K hK => ?_) ?_
                · refine step_append_ch und_pieces _ rfl (.tmp 10) (.tmp 22) rfl B v cv.length (cvs cv) rfl dO.out wB.heap.size ⟨kd, .slice A3 b.length C3, .slice A4 o.length C4, .slice A5 t.length C5, b, o, t⟩ rfl dN.out (HZ.out _ _ _ _ _ _ _ _ _) (by omega) hBz ?_
                  intro A9 C9 wE hoE hgE hsE
                  have hkE := ((Kp.refl [37] wB).alloc (.cells #[.int .i64 kd, .slice A3 b.length C3, .slice A4 o.length C4, .slice A5 t.length C5] 37)).grown dO.out hgE (by simp)
                  have hp2 := hkE.block _ _ _ _ dG.out.pc.p (by decide)
                  have hcl := hkE.block _ _ _ _ dG.out.cells (by decide)
                  have hne : w.heap.size ≠ P := by have := HLt.out; omega
                  clear p1 dC
                  have p1 := cell_of_one hp2
                  have f1 := free_of_one hp2
                  have dC := Lib.hid (three_cells hcl)
                  have dCs := Lib.hid (fun u => three_cells ((Below.heap_setCell wE ⟨P, 0, none⟩ u w.heap.size hne).trans hcl))
                  have hfin := dG.out.pc.push (v' := .slice A9 (cv.length + 1) C9) (c := ⟨kd, .slice A3 b.length C3, .slice A4 o.length C4, .slice A5 t.length C5, b, o, t⟩) (by exact dG.out.rows) hoE hgE
                  have HFin := Lib.hid hfin
                  clear hoE hgE hsE hkE hp2 hcl hne hfin
                  (try go_wp2_with fail)
                  refine hK.out _ _ ?_ (fun hNew => ?_)
                  · ((try dsimp only); first | exact dC.out | exact dCs.out _)
                  clear hK K hHeld
                  have hHeld := hNew
                  clear hNew
                  (try simp only [Act.put, List.setIfInBounds_toArray, List.set_cons_zero, List.set_cons_succ])
                  refine wpAnyH_take (i := 17) (oi := { dst := some 24, op := Op.nilCheck (Operand.tmp 7), type := 0, pos := "merge3.go:98", after := #[{ on := 0, ground := Ground.data }, { on := 0, ground := Ground.phase }, { on := 1, ground := Ground.phase }, { on := 2, ground := Ground.phase }, { on := 3, ground := Ground.phase }, { on := 4, ground := Ground.phase }, { on := 5, ground := Ground.phase }, { on := 6, ground := Ground.phase }, { on := 7, ground := Ground.phase }, { on := 8, ground := Ground.phase }, { on := 9, ground := Ground.phase }, { on := 10, ground := Ground.phase }, { on := 11, ground := Ground.phase }, { on := 12, ground := Ground.phase }, { on := 13, ground := Ground.phase }, { on := 14, ground := Ground.phase }, { on := 15, ground := Ground.phase }, { on := 16, ground := Ground.phase }], guard := none }) (v := ?_) rfl (by kernel_rfl) (by kernel_rfl) (by kernel_rfl) (fun _ _ _ h => h) (Or.inl ⟨by rfl, ?_⟩) (by assumption) ?_
                  rotate_left 1
                  · ((intro w hSw; (try dsimp only at hSw); go_simp) <;> with_reducible rfl)
                  (try simp only [Act.put, List.setIfInBounds_toArray, List.set_cons_zero, List.set_cons_succ])
                  refine wpAnyH_ready (rs := [18]) (by kernel_rfl) (by simp) ?_
                  refine AllReadyH.cons (o := { dst := none, op := Op.store 57 (Operand.tmp 24) (Operand.tmp 23), type := 0, pos := "merge3.go:98", after := #[{ on := 17, ground := Ground.data }, { on := 16, ground := Ground.data }, { on := 16, ground := Ground.chain }, { on := 0, ground := Ground.phase }, { on := 1, ground := Ground.phase }, { on := 2, ground := Ground.phase }, { on := 3, ground := Ground.phase }, { on := 4, ground := Ground.phase }, { on := 5, ground := Ground.phase }, { on := 6, ground := Ground.phase }, { on := 7, ground := Ground.phase }, { on := 8, ground := Ground.phase }, { on := 9, ground := Ground.phase }, { on := 10, ground := Ground.phase }, { on := 11, ground := Ground.phase }, { on := 12, ground := Ground.phase }, { on := 13, ground := Ground.phase }, { on := 14, ground := Ground.phase }, { on := 15, ground := Ground.phase }, { on := 16, ground := Ground.phase }], guard := none }) rfl (fun K hK => ?_) ?_
                  · go_simp
                    refine hK.out _ _ ?_ (fun hNew => ?_)
                    · ((try dsimp only); first | exact dC.out | exact dCs.out _)
                    clear hK K hHeld
                    have hHeld := hNew
                    clear hNew
                    (try simp only [Act.put, List.setIfInBounds_toArray, List.set_cons_zero, List.set_cons_succ])
                    refine wpAnyH_done (by kernel_rfl) ?_ _
                    refine NoPanic.normal ?_
                    go_wp2_with fail
                    go_end0
                    exact ⟨rfl, Lib.hid ⟨_, _, by rw [HN.out, List.map_append]; rfl, HFin.out.1⟩, Lib.hid (dG.out.bel.trans HFin.out.2.1), Lib.hid (dG.out.kp.trans HFin.out.2.2)⟩
                  exact AllReadyH.nil
                exact AllReadyH.nil
              exact AllReadyH.nil
            exact AllReadyH.nil
          refine AllReadyH.cons (o := { dst := some 20, op := Op.call { callee := Callee.value (Operand.func 49), args := #[Operand.tmp 19], argTypes := #[22] }, type := 22, pos := "merge3.go:98", after := #[{ on := 12, ground := Ground.data }, { on := 10, ground := Ground.chain }], guard := none }) rfl (fun K hK => ?_) ?_
          · go_simp
            refine (HC2.out _ _ dG.out).mono ?_
            rintro e wB hr
            obtain ⟨A5, C5, rfl, hg⟩ := dG.out.clone hr
            have dG2 := Lib.hid hg
            have dC2 := Lib.hid (three_cells hg.cells)
            clear hr hg dG dC p1
            have dG := dG2
            have dC := dC2
            have p1 := cell_of_one dG.out.pc.p
            clear dG2 dC2
            (try go_wp2_with fail)
            refine hK.out _ _ ?_ (fun hNew => ?_)
            · ((try dsimp only); first | exact dC.out | exact dCs.out _)
            clear hK K hHeld
            have hHeld := hNew
            clear hNew
            (try simp only [Act.put, List.setIfInBounds_toArray, List.set_cons_zero, List.set_cons_succ])
            refine wpAnyH_take (i := 14) (oi := { dst := some 21, op := Op.build 37 #[(0, Operand.tmp 11), (1, Operand.tmp 14), (2, Operand.tmp 17), (3, Operand.tmp 20)], type := 37, pos := "merge3.go:98", after := #[{ on := 4, ground := Ground.data }, { on := 7, ground := Ground.data }, { on := 10, ground := Ground.data }, { on := 13, ground := Ground.data }], guard := none }) (v := ?_) rfl (by kernel_rfl) (by kernel_rfl) (by kernel_rfl) (fun _ _ _ h => h) (Or.inl ⟨by rfl, ?_⟩) (by assumption) ?_
            rotate_left 1
            · ((intro w hSw; (try dsimp only at hSw); go_simp) <;> with_reducible rfl)
            (try simp only [Act.put, List.setIfInBounds_toArray, List.set_cons_zero, List.set_cons_succ])
            refine wpAnyH_ready (rs := [3, 15]) (by kernel_rfl) (by simp) ?_
            refine AllReadyH.cons (o := { dst := some 10, op := Op.load 57 (Operand.tmp 9), type := 57, pos := "merge3.go:98", after := #[{ on := 2, ground := Ground.data }], guard := none }) rfl (fun K hK => ?_) ?_
            · go_simp
              skip
              (try go_wp2_with fail)
              refine hK.out _ _ ?_ (fun hNew => ?_)
              · ((try dsimp only); first | exact dC.out | exact dCs.out _)
              clear hK K hHeld
              have hHeld := hNew
              clear hNew
              (try simp only [Act.put, List.setIfInBounds_toArray, List.set_cons_zero, List.set_cons_succ])
              refine wpAnyH_ready (rs := [15]) (by kernel_rfl) (by simp) ?_
              refine AllReadyH.cons (o := { dst := some 22, op := Op.buildSlice 57 1 #[(0, Operand.tmp 21)], type := 57, pos := "merge3.go:98", after := #[{ on := 14, ground := Ground.data }], guard := none }) rfl (fun K hK => ?_) ?_
              · go_simp
                have hG2 := dG.out.mv (.cells #[.int .i64 kd, .slice A3 b.length C3, .slice A4 o.length C4, .slice A5 t.length C5] 37)
                have dN := Lib.hid (heap_alloc_new wB (.cells #[.int .i64 kd, .slice A3 b.length C3, .slice A4 o.length C4, .slice A5 t.length C5] 37))
                have dO := Lib.hid hG2.pc.own
                have hBz : B ≤ (wB.alloc (.cells #[.int .i64 kd, .slice A3 b.length C3, .slice A4 o.length C4, .slice A5 t.length C5] 37)).heap.size := by have := hG2.pc.hB; have := hG2.pc.lt; omega
                have dC2 := Lib.hid (three_cells hG2.cells)
                clear dC p1
                have dC := dC2
                have p1 := cell_of_one hG2.pc.p
                clear dC2 hG2
                (try go_wp2_with fail)
                refine hK.out _ _ ?_ (fun hNew => ?_)
                · ((try dsimp only); first | exact dC.out | exact dCs.out _)
                clear hK K hHeld
                have hHeld := hNew
                clear hNew
                (try simp only [Act.put, List.setIfInBounds_toArray, List.set_cons_zero, List.set_cons_succ])
                refine wpAnyH_ready (rs := [16]) (by kernel_rfl) (by simp) ?_
                refine AllReadyH.cons (o := { dst := some 23, op := Op.call { callee := Callee.builtin Builtin.append, args := #[Operand.tmp 10, Operand.tmp 22], argTypes := #[57, 57] }, type := 57, pos := "merge3.go:98", after := #[{ on := 3, ground := Ground.data }, { on := 15, ground := Ground.data }, { on := 13, ground := Ground.chain }], guard := none }) rfl (fun K hK => ?_) ?_
                · refine step_append_ch und_pieces _ rfl (.tmp 10) (.tmp 22) rfl B v cv.length (cvs cv) rfl dO.out wB.heap.size ⟨kd, .slice A3 b.length C3, .slice A4 o.length C4, .slice A5 t.length C5, b, o, t⟩ rfl dN.out (HZ.out _ _ _ _ _ _ _ _ _) (by omega) hBz ?_
                  intro A9 C9 wE hoE hgE hsE
                  have hkE := ((Kp.refl [37] wB).alloc (.cells #[.int .i64 kd, .slice A3 b.length C3, .slice A4 o.length C4, .slice A5 t.length C5] 37)).grown dO.out hgE (by simp)
                  have hp2 := hkE.block _ _ _ _ dG.out.pc.p (by decide)
                  have hcl := hkE.block _ _ _ _ dG.out.cells (by decide)
                  have hne : w.heap.size ≠ P := by have := HLt.out; omega
                  clear p1 dC
                  have p1 := cell_of_one hp2
                  have f1 := free_of_one hp2
                  have dC := Lib.hid (three_cells hcl)
                  have dCs := Lib.hid (fun u => three_cells ((Below.heap_setCell wE ⟨P, 0, none⟩ u w.heap.size hne).trans hcl))
                  have hfin := dG.out.pc.push (v' := .slice A9 (cv.length + 1) C9) (c := ⟨kd, .slice A3 b.length C3, .slice A4 o.length C4, .slice A5 t.length C5, b, o, t⟩) (by exact dG.out.rows) hoE hgE
                  have HFin := Lib.hid hfin
                  clear hoE hgE hsE hkE hp2 hcl hne hfin
                  (try go_wp2_with fail)
                  refine hK.out _ _ ?_ (fun hNew => ?_)
                  · ((try dsimp only); first | exact dC.out | exact dCs.out _)
                  clear hK K hHeld
                  have hHeld := hNew
                  clear hNew
                  (try simp only [Act.put, List.setIfInBounds_toArray, List.set_cons_zero, List.set_cons_succ])
                  refine wpAnyH_take (i := 17) (oi := { dst := some 24, op := Op.nilCheck (Operand.tmp 7), type := 0, pos := "merge3.go:98", after := #[{ on := 0, ground := Ground.data }, { on := 0, ground := Ground.phase }, { on := 1, ground := Ground.phase }, { on := 2, ground := Ground.phase }, { on := 3, ground := Ground.phase }, { on := 4, ground := Ground.phase }, { on := 5, ground := Ground.phase }, { on := 6, ground := Ground.phase }, { on := 7, ground := Ground.phase }, { on := 8, ground := Ground.phase }, { on := 9, ground := Ground.phase }, { on := 10, ground := Ground.phase }, { on := 11, ground := Ground.phase }, { on := 12, ground := Ground.phase }, { on := 13, ground := Ground.phase }, { on := 14, ground := Ground.phase }, { on := 15, ground := Ground.phase }, { on := 16, ground := Ground.phase }], guard := none }) (v := ?_) rfl (by kernel_rfl) (by kernel_rfl) (by kernel_rfl) (fun _ _ _ h => h) (Or.inl ⟨by rfl, ?_⟩) (by assumption) ?_
                  rotate_left 1
                  · ((intro w hSw; (try dsimp only at hSw); go_simp) <;> with_reducible rfl)
                  (try simp only [Act.put, List.setIfInBounds_toArray, List.set_cons_zero, List.set_cons_succ])
                  refine wpAnyH_ready (rs := [18]) (by kernel_rfl) (by simp) ?_
                  refine AllReadyH.cons (o := { dst := none, op := Op.store 57 (Operand.tmp 24) (Operand.tmp 23), type := 0, pos := "merge3.go:98", after := #[{ on := 17, ground := Ground.data }, { on := 16, ground := Ground.data }, { on := 16, ground := Ground.chain }, { on := 0, ground := Ground.phase }, { on := 1, ground := Ground.phase }, { on := 2, ground := Ground.phase }, { on := 3, ground := Ground.phase }, { on := 4, ground := Ground.phase }, { on := 5, ground := Ground.phase }, { on := 6, ground := Ground.phase }, { on := 7, ground := Ground.phase }, { on := 8, ground := Ground.phase }, { on := 9, ground := Ground.phase }, { on := 10, ground := Ground.phase }, { on := 11, ground := Ground.phase }, { on := 12, ground := Ground.phase }, { on := 13, ground := Ground.phase }, { on := 14, ground := Ground.phase }, { on := 15, ground := Ground.phase }, { on := 16, ground := Ground.phase }], guard := none }) rfl (fun K hK => ?_) ?_
                  · go_simp
                    refine hK.out _ _ ?_ (fun hNew => ?_)
                    · ((try dsimp only); first | exact dC.out | exact dCs.out _)
                    clear hK K hHeld
                    have hHeld := hNew
                    clear hNew
                    (try simp only [Act.put, List.setIfInBounds_toArray, List.set_cons_zero, List.set_cons_succ])
                    refine wpAnyH_done (by kernel_rfl) ?_ _
                    refine NoPanic.normal ?_
                    go_wp2_with fail
                    go_end0
                    exact ⟨rfl, Lib.hid ⟨_, _, by rw [HN.out, List.map_append]; rfl, HFin.out.1⟩, Lib.hid (dG.out.bel.trans HFin.out.2.1), Lib.hid (dG.out.kp.trans HFin.out.2.2)⟩
                  exact AllReadyH.nil
                exact AllReadyH.nil
              exact AllReadyH.nil
            refine AllReadyH.cons (o := { dst := some 22, op := Op.buildSlice 57 1 #[(0, Operand.tmp 21)], type := 57, pos := "merge3.go:98", after := #[{ on := 14, ground := Ground.data }], guard := none }) rfl (fun K hK => ?_) ?_
            · go_simp
              have hG2 := dG.out.mv (.cells #[.int .i64 kd, .slice A3 b.length C3, .slice A4 o.length C4, .slice A5 t.length C5] 37)
              have dN := Lib.hid (heap_alloc_new wB (.cells #[.int .i64 kd, .slice A3 b.length C3, .slice A4 o.length C4, .slice A5 t.length C5] 37))
              have dO := Lib.hid hG2.pc.own
              have hBz : B ≤ (wB.alloc (.cells #[.int .i64 kd, .slice A3 b.length C3, .slice A4 o.length C4, .slice A5 t.length C5] 37)).heap.size := by have := hG2.pc.hB; have := hG2.pc.lt; omega
              have dC2 := Lib.hid (three_cells hG2.cells)
              clear dC p1
              have dC := dC2
              have p1 := cell_of_one hG2.pc.p
              clear dC2 hG2
              (try go_wp2_with fail)
              refine hK.out _ _ ?_ (fun hNew => ?_)
              · ((try dsimp only); first | exact dC.out | exact dCs.out _)
              clear hK K hHeld
              have hHeld := hNew
              clear hNew
              (try simp only [Act.put, List.setIfInBounds_toArray, List.set_cons_zero, List.set_cons_succ])
              refine wpAnyH_ready (rs := [3]) (by kernel_rfl) (by simp) ?_
              refine AllReadyH.cons (o := { dst := some 10, op := Op.load 57 (Operand.tmp 9), type := 57, pos := "merge3.go:98", after := #[{ on := 2, ground := Ground.data }], guard := none }) rfl (fun K hK => ?_) ?_
              · go_simp
                skip
                (try go_wp2_with fail)
                refine hK.out _ _ ?_ (fun hNew => ?_)
                · ((try dsimp only); first | exact dC.out | exact dCs.out _)
                clear hK K hHeld
                have hHeld := hNew
                clear hNew
                (try simp only [Act.put, List.setIfInBounds_toArray, List.set_cons_zero, List.set_cons_succ])
                refine wpAnyH_ready (rs := [16]) (by kernel_rfl) (by simp) ?_
                refine AllReadyH.cons (o := { dst := some 23, op := Op.call { callee := Callee.builtin Builtin.append, args := #[Operand.tmp 10, Operand.tmp 22], argTypes := #[57, 57] }, type := 57, pos := "merge3.go:98", after := #[{ on := 3, ground := Ground.data }, { on := 15, ground := Ground.data }, { on := 13, ground := Ground.chain }], guard := none }) rfl (fun K hK => ?_) ?_
                · refine step_append_ch und_pieces _ rfl (.tmp 10) (.tmp 22) rfl B v cv.length (cvs cv) rfl dO.out wB.heap.size ⟨kd, .slice A3 b.length C3, .slice A4 o.length C4, .slice A5 t.length C5, b, o, t⟩ rfl dN.out (HZ.out _ _ _ _ _ _ _ _ _) (by omega) hBz ?_
                  intro A9 C9 wE hoE hgE hsE
                  have hkE := ((Kp.refl [37] wB).alloc (.cells #[.int .i64 kd, .slice A3 b.length C3, .slice A4 o.length C4, .slice A5 t.length C5] 37)).grown dO.out hgE (by simp)
                  have hp2 := hkE.block _ _ _ _ dG.out.pc.p (by decide)
                  have hcl := hkE.block _ _ _ _ dG.out.cells (by decide)
                  have hne : w.heap.size ≠ P := by have := HLt.out; omega
                  clear p1 dC
                  have p1 := cell_of_one hp2
                  have f1 := free_of_one hp2
                  have dC := Lib.hid (three_cells hcl)
                  have dCs := Lib.hid (fun u => three_cells ((Below.heap_setCell wE ⟨P, 0, none⟩ u w.heap.size hne).trans hcl))
                  have hfin := dG.out.pc.push (v' := .slice A9 (cv.length + 1) C9) (c := ⟨kd, .slice A3 b.length C3, .slice A4 o.length C4, .slice A5 t.length C5, b, o, t⟩) (by exact dG.out.rows) hoE hgE
                  have HFin := Lib.hid hfin
                  clear hoE hgE hsE hkE hp2 hcl hne hfin
                  (try go_wp2_with fail)
                  refine hK.out _ _ ?_ (fun hNew => ?_)
                  · ((try dsimp only); first | exact dC.out | exact dCs.out _)
                  clear hK K hHeld
                  have hHeld := hNew
                  clear hNew
                  (try simp only [Act.put, List.setIfInBounds_toArray, List.set_cons_zero, List.set_cons_succ])
                  refine wpAnyH_take (i := 17) (oi := { dst := some 24, op := Op.nilCheck (Operand.tmp 7), type := 0, pos := "merge3.go:98", after := #[{ on := 0, ground := Ground.data }, { on := 0, ground := Ground.phase }, { on := 1, ground := Ground.phase }, { on := 2, ground := Ground.phase }, { on := 3, ground := Ground.phase }, { on := 4, ground := Ground.phase }, { on := 5, ground := Ground.phase }, { on := 6, ground := Ground.phase }, { on := 7, ground := Ground.phase }, { on := 8, ground := Ground.phase }, { on := 9, ground := Ground.phase }, { on := 10, ground := Ground.phase }, { on := 11, ground := Ground.phase }, { on := 12, ground := Ground.phase }, { on := 13, ground := Ground.phase }, { on := 14, ground := Ground.phase }, { on := 15, ground := Ground.phase }, { on := 16, ground := Ground.phase }], guard := none }) (v := ?_) rfl (by kernel_rfl) (by kernel_rfl) (by kernel_rfl) (fun _ _ _ h => h) (Or.inl ⟨by rfl, ?_⟩) (by assumption) ?_
                  rotate_left 1
                  · ((intro w hSw; (try dsimp only at hSw); go_simp) <;> with_reducible rfl)
                  (try simp only [Act.put, List.setIfInBounds_toArray, List.set_cons_zero, List.set_cons_succ])
                  refine wpAnyH_ready (rs := [18]) (by kernel_rfl) (by simp) ?_
                  refine AllReadyH.cons (o := { dst := none, op := Op.store 57 (Operand.tmp 24) (Operand.tmp 23), type := 0, pos := "merge3.go:98", after := #[{ on := 17, ground := Ground.data }, { on := 16, ground := Ground.data }, { on := 16, ground := Ground.chain }, { on := 0, ground := Ground.phase }, { on := 1, ground := Ground.phase }, { on := 2, ground := Ground.phase }, { on := 3, ground := Ground.phase }, { on := 4, ground := Ground.phase }, { on := 5, ground := Ground.phase }, { on := 6, ground := Ground.phase }, { on := 7, ground := Ground.phase }, { on := 8, ground := Ground.phase }, { on := 9, ground := Ground.phase }, { on := 10, ground := Ground.phase }, { on := 11, ground := Ground.phase }, { on := 12, ground := Ground.phase }, { on := 13, ground := Ground.phase }, { on := 14, ground := Ground.phase }, { on := 15, ground := Ground.phase }, { on := 16, ground := Ground.phase }], guard := none }) rfl (fun K hK => ?_) ?_
                  · go_simp
                    refine hK.out _ _ ?_ (fun hNew => ?_)
                    · ((try dsimp only); first | exact dC.out | exact dCs.out _)
                    clear hK K hHeld
                    have hHeld := hNew
                    clear hNew
                    (try simp only [Act.put, List.setIfInBounds_toArray, List.set_cons_zero, List.set_cons_succ])
                    refine wpAnyH_done (by kernel_rfl) ?_ _
                    refine NoPanic.normal ?_
                    go_wp2_with fail
                    go_end0
                    exact ⟨rfl, Lib.hid ⟨_, _, by rw [HN.out, List.map_append]; rfl, HFin.out.1⟩, Lib.hid (dG.out.bel.trans HFin.out.2.1), Lib.hid (dG.out.kp.trans HFin.out.2.2)⟩
                  exact AllReadyH.nil
                exact AllReadyH.nil
              exact AllReadyH.nil
            exact AllReadyH.nil
          exact AllReadyH.nil
        exact AllReadyH.nil
      exact AllReadyH.nil
end Go.Proofs.Ytlaneilmffdahaa.Mg
