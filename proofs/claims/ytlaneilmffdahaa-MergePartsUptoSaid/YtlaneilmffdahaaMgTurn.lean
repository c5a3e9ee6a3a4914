/- turned: chunks with ours and theirs changed about. -/
import Derived.Test.YtlaneilmffdahaaMgRender
namespace Go.Proofs.Ytlaneilmffdahaa.Mg
open Go.RowKit Go.Proofs.Ytlaneilmffdahaa.Ln
set_option linter.unusedVariables false

theorem RdC.of_cells {w : World} {B : Nat} {A : Option Addr} {n C : Nat} {cv : List Cv} (h : w.ownsRow B 37 4 (.slice A n C) n (cvs cv)) (hn : cv.length = n) (hs : ∀ c ∈ cv, SlAt w w.heap.size c.vb c.b ∧ SlAt w w.heap.size c.vo c.o ∧ SlAt w w.heap.size c.vt c.t) : RdC w w.heap.size A n C (cv.map Cv.ch) := by
  obtain ⟨q1, q2⟩ := own_cap h
  have h0 := h
  refine ⟨by simpa using hn, q1, q2, fun i hi => ?_⟩
  rw [List.length_map] at hi
  rcases h.2 with ⟨hv, hz⟩ | ⟨g, cap, cur, hv, hg, hh, -⟩
  · omega
  · simp only [Value.slice.injEq] at hv
    obtain ⟨rfl, -, -⟩ := hv
    have hc : ∀ j, j < 4 → w.cell? ⟨g, 0 + i * 4 + j, none⟩ = (cv[i].cells)[j]? := fun j hj => by
      rw [Nat.zero_add, h0.cellAt _ (by omega), cvs_get cv i hi j hj]
    obtain ⟨f1, f2, f3⟩ := hs _ (List.getElem_mem hi)
    have e : (cv.map Cv.ch)[i]'(by simpa using hi) = cv[i].ch := by simp
    rw [e]
    exact ⟨g, 0, cv[i].vb, cv[i].vo, cv[i].vt, rfl, lt_of_block hh, by simpa [Cv.cells, Cv.ch] using hc 0 (by omega), by simpa [Cv.cells] using hc 1 (by omega), by simpa [Cv.cells] using hc 2 (by omega), by simpa [Cv.cells] using hc 3 (by omega), f1, f2, f3⟩
/-- the walk's state -/
structure Tw (w : World) (B : Nat) (l : List Ch) (k : Nat) (A : Option Addr) (C : Nat) (cv : List Cv) (wr : World) : Prop where
  len : cv.length = k
  ch : cv.map Cv.ch = (l.take k).map turnC
  own : wr.ownsRow w.heap.size 37 4 (.slice A k C) k (cvs cv)
  sl : ∀ c ∈ cv, SlAt w B c.vb c.b ∧ SlAt w B c.vo c.o ∧ SlAt w B c.vt c.t
  bel : Below w.heap.size w wr
theorem Tw.snoc {w : World} {B : Nat} {l : List Ch} {k : Nat} {A A' : Option Addr} {C C' : Nat} {cv : List Cv} {wr wx w' : World} (h : Tw w B l k A C cv wr) (hx : Below wr.heap.size wr wx) (hk : k < l.length) (c : Cv) (hc : c.ch = turnC l[k]) (hs : SlAt w B c.vb c.b ∧ SlAt w B c.vo c.o ∧ SlAt w B c.vt c.t)
    (ho : w'.ownsRow w.heap.size 37 4 (.slice A' (k + 1) C') (k + 1) (cvs cv ++ c.cells)) (hg : wx.grownBy w' (Value.slice A k C).ownBlock) : Tw w B l (k + 1) A' C' (cv ++ [c]) w' := by
  refine ⟨by rw [List.length_append, h.len]; rfl, ?_, by rw [cvs_append, cvs_one]; exact ho, fun d hd => ?_, ?_⟩
  · rw [List.map_append, h.ch, List.take_succ_eq_append_getElem hk, List.map_append, List.map_cons, List.map_nil, hc]; rfl
  · rcases List.mem_append.1 hd with hd | hd
    · exact h.sl d hd
    · rw [List.mem_singleton.1 hd]; exact hs
  · exact (h.bel.trans (hx.mono h.bel.size)).trans (below_grown (Nat.le_trans h.bel.size hx.size) (own_keep h.own hx) hg)
theorem cells4_one (k : Int) (A1 A2 A3 : Option Addr) (n1 C1 n2 C2 n3 C3 : Nat) : ∀ u ∈ [Value.int .i64 k, .slice A1 n1 C1, .slice A2 n2 C2, .slice A3 n3 C3], u.oneCell' = true := by
  intro u hu
  simp only [List.mem_cons, List.not_mem_nil, or_false] at hu
  rcases hu with rfl | rfl | rfl | rfl <;> rfl
theorem two_new (wr : World) (c1 c2 : Obj) : Below wr.heap.size wr ((wr.alloc c1).alloc c2).drew ∧ ((wr.alloc c1).alloc c2).drew.heap[wr.heap.size + 1]? = some c2 ∧ True := by
  refine ⟨below_drewN (((Below.refl _ wr).alloc (Nat.le_refl _) c1).alloc (by simp) c2) 1, ?_, trivial⟩
  have h := heap_alloc_new (wr.alloc c1) c2
  have z : (wr.alloc c1).heap.size = wr.heap.size + 1 := by simp
  rw [z] at h
  exact h
def TnRet (l : List Ch) (w : World) (e : Ending) (w' : World) : Prop :=
  ∃ A C, e = .returned (.slice A l.length C) ∧ RdC w' w'.heap.size A l.length C (l.map turnC) ∧ Below w.heap.size w w'

set_option maxRecDepth 100000 in
set_option maxHeartbeats 4000000 in
theorem turned_any (B : Nat) (A : Option Addr) (n C : Nat) (l : List Ch) (w : World) (h : RdC w B A n C l) (hB : B ≤ w.heap.size) (hn : n ≤ 1000000) :
    Calls Try.prog 25 #[.slice A n C] w (TnRet l w) := by
  have q1 := h.cap
  have q2 := h.max
  have HL := Lib.hid h.len
  have H := Lib.hid h
  clear h
  go_enter Try.func25, Try.ntmps25
  go_wp2
  go_loopw [3, 4] (fun s3 s4 wr => ∃ (k : Nat) (A3 : Option Addr) (C3 : Nat) (cv : List Cv), k ≤ n ∧ s4 = .int .i64 k ∧ s3 = .slice A3 k C3 ∧ Hid (Tw w B l k A3 C3 cv wr)) (fun _ s4 _ => n - (intOf s4).toNat)
  case atStart => exact ⟨0, none, 0, [], Nat.zero_le _, rfl, rfl, Lib.hid ⟨rfl, rfl, World.ownsRow_nil _ _ _ _, (fun c hc => by simp at hc), Below.refl _ _⟩⟩
  case round =>
    obtain ⟨k, A3, C3, cv, hk, rfl, rfl, HT⟩ := hrel
    by_cases hlt : k < n
    · have hkl : k < l.length := by rw [HL.out]; exact hlt
      obtain ⟨g, o, vb, vo, vt, rfl, hg, c0, c1, c2, c3, s0, s1, s2⟩ := (H.out).cell k hkl
      have HS := Lib.hid (And.intro s0 (And.intro s1 s2))
      obtain ⟨Ab, nb, Cb, rfl, -⟩ := s0
      obtain ⟨Ao, no, Co, rfl, -⟩ := s1
      obtain ⟨At, nt, Ct, rfl, -⟩ := s2
      obtain ⟨kd, b, oo, t, hc⟩ : ∃ kd b oo t, l[k] = (⟨kd, b, oo, t⟩ : Ch) := ⟨l[k].k, l[k].b, l[k].o, l[k].t, rfl⟩
      rw [hc] at c0 HS
      simp only at c0 HS
      have HC := Lib.hid hc
      have hbl := HT.out.bel.mono hB
      have dC : Hid (wr.drew.cell? ⟨g, o + k * 4, none⟩ = some (.int .i64 kd) ∧ wr.drew.cell? ⟨g, o + k * 4 + 1, none⟩ = some (.slice Ab nb Cb) ∧ wr.drew.cell? ⟨g, o + k * 4 + 2, none⟩ = some (.slice Ao no Co) ∧ wr.drew.cell? ⟨g, o + k * 4 + 3, none⟩ = some (.slice At nt Ct)) := Lib.hid
        ⟨(hbl.cell (p := ⟨g, o + k * 4, none⟩) hg).trans c0, (hbl.cell (p := ⟨g, o + k * 4 + 1, none⟩) hg).trans c1, (hbl.cell (p := ⟨g, o + k * 4 + 2, none⟩) hg).trans c2, (hbl.cell (p := ⟨g, o + k * 4 + 3, none⟩) hg).trans c3⟩
      have dA := Lib.hid (fun ob => (show (wr.drew.alloc ob).cell? ⟨g, o + k * 4, none⟩ = some (.int .i64 kd) ∧ (wr.drew.alloc ob).cell? ⟨g, o + k * 4 + 1, none⟩ = some (.slice Ab nb Cb) ∧ (wr.drew.alloc ob).cell? ⟨g, o + k * 4 + 2, none⟩ = some (.slice Ao no Co) ∧ (wr.drew.alloc ob).cell? ⟨g, o + k * 4 + 3, none⟩ = some (.slice At nt Ct) from by
        have hba : Below B w (wr.drew.alloc ob) := (below_drewN hbl 1).alloc (Nat.le_trans hB HT.out.bel.size) ob
        exact ⟨(hba.cell (p := ⟨g, o + k * 4, none⟩) hg).trans c0, (hba.cell (p := ⟨g, o + k * 4 + 1, none⟩) hg).trans c1, (hba.cell (p := ⟨g, o + k * 4 + 2, none⟩) hg).trans c2, (hba.cell (p := ⟨g, o + k * 4 + 3, none⟩) hg).trans c3⟩))
      clear hc c0 c1 c2 c3 hbl
      go_wp2_with fail
      refine wp_region_noPanic ?_
      refine wp_region_held_drew (S := (fun wS => wS.cell? ⟨g, o + k * 4, none⟩ = some (.int .i64 kd) ∧ wS.cell? ⟨g, o + k * 4 + 1, none⟩ = some (.slice Ab nb Cb) ∧ wS.cell? ⟨g, o + k * 4 + 2, none⟩ = some (.slice Ao no Co) ∧ wS.cell? ⟨g, o + k * 4 + 3, none⟩ = some (.slice At nt Ct))) (by kernel_rfl) ?_ (fun hHeld => ?_)
      · ((try dsimp only); exact dC.out)
      refine wpAnyH_take (i := 0) (oi := { dst := some 12, op := Op.move (Operand.tmp 0), type := 25, pos := "law.go:84", after := #[], guard := none }) (v := ?_) rfl (by kernel_rfl) (by kernel_rfl) (by kernel_rfl) (fun _ _ _ h => h) (Or.inl ⟨by rfl, ?_⟩) (by assumption) ?_
      rotate_left 1
      · ((intro w hSw; (try dsimp only at hSw); go_simp) <;> with_reducible rfl)
      (try simp only [Act.put, List.setIfInBounds_toArray, List.set_cons_zero, List.set_cons_succ])
      refine wpAnyH_take (i := 1) (oi := { dst := some 13, op := Op.move (Operand.tmp 4), type := 3, pos := "law.go:84", after := #[], guard := none }) (v := ?_) rfl (by kernel_rfl) (by kernel_rfl) (by kernel_rfl) (fun _ _ _ h => h) (Or.inl ⟨by rfl, ?_⟩) (by assumption) ?_
      rotate_left 1
      · ((intro w hSw; (try dsimp only at hSw); go_simp) <;> with_reducible rfl)
      (try simp only [Act.put, List.setIfInBounds_toArray, List.set_cons_zero, List.set_cons_succ])
      refine wpAnyH_take (i := 2) (oi := { dst := some 14, op := Op.indexAddr 25 (Operand.tmp 12) (Operand.tmp 13), type := 0, pos := "law.go:84", after := #[{ on := 0, ground := Ground.data }, { on := 1, ground := Ground.data }], guard := none }) (v := ?_) rfl (by kernel_rfl) (by kernel_rfl) (by kernel_rfl) (fun _ _ _ h => h) (Or.inl ⟨by rfl, ?_⟩) (by assumption) ?_
      rotate_left 1
      · ((intro w hSw; (try dsimp only at hSw); go_simp) <;> with_reducible rfl)
      (try simp only [Act.put, List.setIfInBounds_toArray, List.set_cons_zero, List.set_cons_succ])
      refine wpAnyH_take (i := 3) (oi := { dst := some 15, op := Op.fieldAddr 37 (Operand.tmp 14) 0, type := 0, pos := "law.go:84", after := #[{ on := 2, ground := Ground.data }], guard := none }) (v := ?_) rfl (by kernel_rfl) (by kernel_rfl) (by kernel_rfl) (fun _ _ _ h => h) (Or.inl ⟨by rfl, ?_⟩) (by assumption) ?_
      rotate_left 1
      · ((intro w hSw; (try dsimp only at hSw); go_simp) <;> with_reducible rfl)
      (try simp only [Act.put, List.setIfInBounds_toArray, List.set_cons_zero, List.set_cons_succ])
      refine wpAnyH_take (i := 4) (oi := { dst := some 16, op := Op.load 3 (Operand.tmp 15), type := 3, pos := "law.go:84", after := #[{ on := 3, ground := Ground.data }], guard := none }) (v := ?_) rfl (by kernel_rfl) (by kernel_rfl) (by kernel_rfl) (fun _ _ _ h => h) (Or.inl ⟨by rfl, ?_⟩) (by assumption) ?_
      rotate_left 1
      · ((intro w hSw; (try dsimp only at hSw); go_simp) <;> with_reducible rfl)
      (try simp only [Act.put, List.setIfInBounds_toArray, List.set_cons_zero, List.set_cons_succ])
      refine wpAnyH_take (i := 5) (oi := { dst := some 17, op := Op.move (Operand.tmp 0), type := 25, pos := "law.go:84", after := #[], guard := none }) (v := ?_) rfl (by kernel_rfl) (by kernel_rfl) (by kernel_rfl) (fun _ _ _ h => h) (Or.inl ⟨by rfl, ?_⟩) (by assumption) ?_
      rotate_left 1
      · ((intro w hSw; (try dsimp only at hSw); go_simp) <;> with_reducible rfl)
      (try simp only [Act.put, List.setIfInBounds_toArray, List.set_cons_zero, List.set_cons_succ])
      refine wpAnyH_take (i := 6) (oi := { dst := some 18, op := Op.move (Operand.tmp 4), type := 3, pos := "law.go:84", after := #[], guard := none }) (v := ?_) rfl (by kernel_rfl) (by kernel_rfl) (by kernel_rfl) (fun _ _ _ h => h) (Or.inl ⟨by rfl, ?_⟩) (by assumption) ?_
      rotate_left 1
      · ((intro w hSw; (try dsimp only at hSw); go_simp) <;> with_reducible rfl)
      (try simp only [Act.put, List.setIfInBounds_toArray, List.set_cons_zero, List.set_cons_succ])
      refine wpAnyH_take (i := 7) (oi := { dst := some 19, op := Op.indexAddr 25 (Operand.tmp 17) (Operand.tmp 18), type := 0, pos := "law.go:84", after := #[{ on := 5, ground := Ground.data }, { on := 6, ground := Ground.data }], guard := none }) (v := ?_) rfl (by kernel_rfl) (by kernel_rfl) (by kernel_rfl) (fun _ _ _ h => h) (Or.inl ⟨by rfl, ?_⟩) (by assumption) ?_
      rotate_left 1
      · ((intro w hSw; (try dsimp only at hSw); go_simp) <;> with_reducible rfl)
      (try simp only [Act.put, List.setIfInBounds_toArray, List.set_cons_zero, List.set_cons_succ])
      refine wpAnyH_take (i := 8) (oi := { dst := some 20, op := Op.fieldAddr 37 (Operand.tmp 19) 1, type := 0, pos := "law.go:84", after := #[{ on := 7, ground := Ground.data }], guard := none }) (v := ?_) rfl (by kernel_rfl) (by kernel_rfl) (by kernel_rfl) (fun _ _ _ h => h) (Or.inl ⟨by rfl, ?_⟩) (by assumption) ?_
      rotate_left 1
      · ((intro w hSw; (try dsimp only at hSw); go_simp) <;> with_reducible rfl)
      (try simp only [Act.put, List.setIfInBounds_toArray, List.set_cons_zero, List.set_cons_succ])
      refine wpAnyH_take (i := 9) (oi := { dst := some 21, op := Op.load 22 (Operand.tmp 20), type := 22, pos := "law.go:84", after := #[{ on := 8, ground := Ground.data }], guard := none }) (v := ?_) rfl (by kernel_rfl) (by kernel_rfl) (by kernel_rfl) (fun _ _ _ h => h) (Or.inl ⟨by rfl, ?_⟩) (by assumption) ?_
      rotate_left 1
      · ((intro w hSw; (try dsimp only at hSw); go_simp) <;> with_reducible rfl)
      (try simp only [Act.put, List.setIfInBounds_toArray, List.set_cons_zero, List.set_cons_succ])
      refine wpAnyH_take (i := 10) (oi := { dst := some 22, op := Op.move (Operand.tmp 0), type := 25, pos := "law.go:84", after := #[], guard := none }) (v := ?_) rfl (by kernel_rfl) (by kernel_rfl) (by kernel_rfl) (fun _ _ _ h => h) (Or.inl ⟨by rfl, ?_⟩) (by assumption) ?_
      rotate_left 1
      · ((intro w hSw; (try dsimp only at hSw); go_simp) <;> with_reducible rfl)
      (try simp only [Act.put, List.setIfInBounds_toArray, List.set_cons_zero, List.set_cons_succ])
      refine wpAnyH_take (i := 11) (oi := { dst := some 23, op := Op.move (Operand.tmp 4), type := 3, pos := "law.go:84", after := #[], guard := none }) (v := ?_) rfl (by kernel_rfl) (by kernel_rfl) (by kernel_rfl) (fun _ _ _ h => h) (Or.inl ⟨by rfl, ?_⟩) (by assumption) ?_
      rotate_left 1
      · ((intro w hSw; (try dsimp only at hSw); go_simp) <;> with_reducible rfl)
      (try simp only [Act.put, List.setIfInBounds_toArray, List.set_cons_zero, List.set_cons_succ])
      refine wpAnyH_take (i := 12) (oi := { dst := some 24, op := Op.indexAddr 25 (Operand.tmp 22) (Operand.tmp 23), type := 0, pos := "law.go:84", after := #[{ on := 10, ground := Ground.data }, { on := 11, ground := Ground.data }], guard := none }) (v := ?_) rfl (by kernel_rfl) (by kernel_rfl) (by kernel_rfl) (fun _ _ _ h => h) (Or.inl ⟨by rfl, ?_⟩) (by assumption) ?_
      rotate_left 1
      · ((intro w hSw; (try dsimp only at hSw); go_simp) <;> with_reducible rfl)
      (try simp only [Act.put, List.setIfInBounds_toArray, List.set_cons_zero, List.set_cons_succ])
      refine wpAnyH_take (i := 13) (oi := { dst := some 25, op := Op.fieldAddr 37 (Operand.tmp 24) 3, type := 0, pos := "law.go:84", after := #[{ on := 12, ground := Ground.data }], guard := none }) (v := ?_) rfl (by kernel_rfl) (by kernel_rfl) (by kernel_rfl) (fun _ _ _ h => h) (Or.inl ⟨by rfl, ?_⟩) (by assumption) ?_
      rotate_left 1
      · ((intro w hSw; (try dsimp only at hSw); go_simp) <;> with_reducible rfl)
      (try simp only [Act.put, List.setIfInBounds_toArray, List.set_cons_zero, List.set_cons_succ])
      refine wpAnyH_take (i := 14) (oi := { dst := some 26, op := Op.load 22 (Operand.tmp 25), type := 22, pos := "law.go:84", after := #[{ on := 13, ground := Ground.data }], guard := none }) (v := ?_) rfl (by kernel_rfl) (by kernel_rfl) (by kernel_rfl) (fun _ _ _ h => h) (Or.inl ⟨by rfl, ?_⟩) (by assumption) ?_
      rotate_left 1
      · ((intro w hSw; (try dsimp only at hSw); go_simp) <;> with_reducible rfl)
      (try simp only [Act.put, List.setIfInBounds_toArray, List.set_cons_zero, List.set_cons_succ])
      refine wpAnyH_take (i := 15) (oi := { dst := some 27, op := Op.move (Operand.tmp 0), type := 25, pos := "law.go:84", after := #[], guard := none }) (v := ?_) rfl (by kernel_rfl) (by kernel_rfl) (by kernel_rfl) (fun _ _ _ h => h) (Or.inl ⟨by rfl, ?_⟩) (by assumption) ?_
      rotate_left 1
      · ((intro w hSw; (try dsimp only at hSw); go_simp) <;> with_reducible rfl)
      (try simp only [Act.put, List.setIfInBounds_toArray, List.set_cons_zero, List.set_cons_succ])
      refine wpAnyH_take (i := 16) (oi := { dst := some 28, op := Op.move (Operand.tmp 4), type := 3, pos := "law.go:84", after := #[], guard := none }) (v := ?_) rfl (by kernel_rfl) (by kernel_rfl) (by kernel_rfl) (fun _ _ _ h => h) (Or.inl ⟨by rfl, ?_⟩) (by assumption) ?_
      rotate_left 1
      · ((intro w hSw; (try dsimp only at hSw); go_simp) <;> with_reducible rfl)
      (try simp only [Act.put, List.setIfInBounds_toArray, List.set_cons_zero, List.set_cons_succ])
      refine wpAnyH_take (i := 17) (oi := { dst := some 29, op := Op.indexAddr 25 (Operand.tmp 27) (Operand.tmp 28), type := 0, pos := "law.go:84", after := #[{ on := 15, ground := Ground.data }, { on := 16, ground := Ground.data }], guard := none }) (v := ?_) rfl (by kernel_rfl) (by kernel_rfl) (by kernel_rfl) (fun _ _ _ h => h) (Or.inl ⟨by rfl, ?_⟩) (by assumption) ?_
      rotate_left 1
      · ((intro w hSw; (try dsimp only at hSw); go_simp) <;> with_reducible rfl)
      (try simp only [Act.put, List.setIfInBounds_toArray, List.set_cons_zero, List.set_cons_succ])
      refine wpAnyH_take (i := 18) (oi := { dst := some 30, op := Op.fieldAddr 37 (Operand.tmp 29) 2, type := 0, pos := "law.go:84", after := #[{ on := 17, ground := Ground.data }], guard := none }) (v := ?_) rfl (by kernel_rfl) (by kernel_rfl) (by kernel_rfl) (fun _ _ _ h => h) (Or.inl ⟨by rfl, ?_⟩) (by assumption) ?_
      rotate_left 1
      · ((intro w hSw; (try dsimp only at hSw); go_simp) <;> with_reducible rfl)
      (try simp only [Act.put, List.setIfInBounds_toArray, List.set_cons_zero, List.set_cons_succ])
      refine wpAnyH_take (i := 19) (oi := { dst := some 31, op := Op.load 22 (Operand.tmp 30), type := 22, pos := "law.go:84", after := #[{ on := 18, ground := Ground.data }], guard := none }) (v := ?_) rfl (by kernel_rfl) (by kernel_rfl) (by kernel_rfl) (fun _ _ _ h => h) (Or.inl ⟨by rfl, ?_⟩) (by assumption) ?_
      rotate_left 1
      · ((intro w hSw; (try dsimp only at hSw); go_simp) <;> with_reducible rfl)
      (try simp only [Act.put, List.setIfInBounds_toArray, List.set_cons_zero, List.set_cons_succ])
      refine wpAnyH_take (i := 20) (oi := { dst := some 32, op := Op.build 37 #[(0, Operand.tmp 16), (1, Operand.tmp 21), (2, Operand.tmp 26), (3, Operand.tmp 31)], type := 37, pos := "law.go:84", after := #[{ on := 4, ground := Ground.data }, { on := 9, ground := Ground.data }, { on := 14, ground := Ground.data }, { on := 19, ground := Ground.data }], guard := none }) (v := ?_) rfl (by kernel_rfl) (by kernel_rfl) (by kernel_rfl) (fun _ _ _ h => h) (Or.inl ⟨by rfl, ?_⟩) (by assumption) ?_
      rotate_left 1
      · ((intro w hSw; (try dsimp only at hSw); go_simp) <;> with_reducible rfl)
      (try simp only [Act.put, List.setIfInBounds_toArray, List.set_cons_zero, List.set_cons_succ])
      refine wpAnyH_ready (rs := [21]) (by kernel_rfl) (by simp) ?_
      refine AllReadyH.cons (o := { dst := some 5, op := Op.alloc 37, type := 0, pos := "law.go:84", after := #[], guard := none }) rfl (fun K hK => ?_) ?_
      · go_simp
        skip
        (try go_wp2_with fail)
        refine hK.out _ _ ?_ (fun hNew => ?_)
        · ((try dsimp only); first | exact dC.out | exact dA.out _)
        clear hK K hHeld
        have hHeld := hNew
        clear hNew
        (try simp only [Act.put, List.setIfInBounds_toArray, List.set_cons_zero, List.set_cons_succ])
        refine wpAnyH_ready (rs := [22]) (by kernel_rfl) (by simp) ?_
        refine AllReadyH.cons (o := { dst := none, op := Op.store 37 (Operand.tmp 5) (Operand.tmp 32), type := 0, pos := "law.go:84", after := #[{ on := 21, ground := Ground.data }, { on := 20, ground := Ground.data }, { on := 0, ground := Ground.phase }, { on := 1, ground := Ground.phase }, { on := 2, ground := Ground.phase }, { on := 3, ground := Ground.phase }, { on := 4, ground := Ground.phase }, { on := 5, ground := Ground.phase }, { on := 6, ground := Ground.phase }, { on := 7, ground := Ground.phase }, { on := 8, ground := Ground.phase }, { on := 9, ground := Ground.phase }, { on := 10, ground := Ground.phase }, { on := 11, ground := Ground.phase }, { on := 12, ground := Ground.phase }, { on := 13, ground := Ground.phase }, { on := 14, ground := Ground.phase }, { on := 15, ground := Ground.phase }, { on := 16, ground := Ground.phase }, { on := 17, ground := Ground.phase }, { on := 18, ground := Ground.phase }, { on := 19, ground := Ground.phase }, { on := 20, ground := Ground.phase }, { on := 21, ground := Ground.phase }], guard := none }) rfl (fun K hK => ?_) ?_
        · go_simp
          refine hK.out _ _ ?_ (fun hNew => ?_)
          · ((try dsimp only); first | exact dC.out | exact dA.out _)
          clear hK K hHeld
          have hHeld := hNew
          clear hNew
          (try simp only [Act.put, List.setIfInBounds_toArray, List.set_cons_zero, List.set_cons_succ])
          refine wpAnyH_done (by kernel_rfl) ?_ _
          refine NoPanic.normal ?_
          by_cases k1 : kd = 1
          · subst k1
            have HX := Lib.hid (two_new wr (.cells #[.int .i64 2, .slice Ab nb Cb, .slice At nt Ct, .slice Ao no Co] 37) (.cells #[.int .i64 2, .slice Ab nb Cb, .slice At nt Ct, .slice Ao no Co] 37))
            have HOw := Lib.hid (own_keep HT.out.own HX.out.1)
            clear dC dA hHeld
            go_wp2_with (at_builtin; refine wpList_append_ch und_chunks _ rfl _ _ rfl w.heap.size _ k (cvs cv) rfl HOw.out (wr.heap.size + 1) ⟨2, .slice Ab nb Cb, .slice At nt Ct, .slice Ao no Co, b, t, oo⟩ rfl HX.out.2.1 (cells4_one _ _ _ _ _ _ _ _ _ _) (by omega) (Nat.le_trans HT.out.bel.size HX.out.1.size) ?_)
            intro A5 C5 w5 ho5 hg5 _
            have HT5 := Lib.hid (HT.out.snoc HX.out.1 hkl ⟨2, .slice Ab nb Cb, .slice At nt Ct, .slice Ao no Co, b, t, oo⟩ (by rw [HC.out]; simp [Cv.ch, turnC, turnK]) ⟨HS.out.1, HS.out.2.2, HS.out.2.1⟩ ho5 hg5)
            clear ho5 hg5 HOw HX HT
            go_wp2
            go_roundw
            case rel => exact ⟨k + 1, A5, C5, _, by omega, by go_num, rfl, HT5⟩
            case measure => simp [intOf]; omega
          · by_cases k2 : kd = 2
            · subst k2
              have f1 : ((2 : Int) == 1) = false := by decide
              have HX := Lib.hid (two_new wr (.cells #[.int .i64 1, .slice Ab nb Cb, .slice At nt Ct, .slice Ao no Co] 37) (.cells #[.int .i64 1, .slice Ab nb Cb, .slice At nt Ct, .slice Ao no Co] 37))
              have HOw := Lib.hid (own_keep HT.out.own HX.out.1)
              clear dC dA hHeld
              go_wp2_with (at_builtin; refine wpList_append_ch und_chunks _ rfl _ _ rfl w.heap.size _ k (cvs cv) rfl HOw.out (wr.heap.size + 1) ⟨1, .slice Ab nb Cb, .slice At nt Ct, .slice Ao no Co, b, t, oo⟩ rfl HX.out.2.1 (cells4_one _ _ _ _ _ _ _ _ _ _) (by omega) (Nat.le_trans HT.out.bel.size HX.out.1.size) ?_)
              intro A5 C5 w5 ho5 hg5 _
              have HT5 := Lib.hid (HT.out.snoc HX.out.1 hkl ⟨1, .slice Ab nb Cb, .slice At nt Ct, .slice Ao no Co, b, t, oo⟩ (by rw [HC.out]; simp [Cv.ch, turnC, turnK]) ⟨HS.out.1, HS.out.2.2, HS.out.2.1⟩ ho5 hg5)
              clear ho5 hg5 HOw HX HT
              go_wp2
              go_roundw
              case rel => exact ⟨k + 1, A5, C5, _, by omega, by go_num, rfl, HT5⟩
              case measure => simp [intOf]; omega
            · have f1 : (kd == 1) = false := by simpa using k1
              have f2 : (kd == 2) = false := by simpa using k2
              have HX := Lib.hid (two_new wr (.cells #[.int .i64 kd, .slice Ab nb Cb, .slice At nt Ct, .slice Ao no Co] 37) (.cells #[.int .i64 kd, .slice Ab nb Cb, .slice At nt Ct, .slice Ao no Co] 37))
              have HOw := Lib.hid (own_keep HT.out.own HX.out.1)
              clear dC dA hHeld
              go_wp2_with (at_builtin; refine wpList_append_ch und_chunks _ rfl _ _ rfl w.heap.size _ k (cvs cv) rfl HOw.out (wr.heap.size + 1) ⟨kd, .slice Ab nb Cb, .slice At nt Ct, .slice Ao no Co, b, t, oo⟩ rfl HX.out.2.1 (cells4_one _ _ _ _ _ _ _ _ _ _) (by omega) (Nat.le_trans HT.out.bel.size HX.out.1.size) ?_)
              intro A5 C5 w5 ho5 hg5 _
              have HT5 := Lib.hid (HT.out.snoc HX.out.1 hkl ⟨kd, .slice Ab nb Cb, .slice At nt Ct, .slice Ao no Co, b, t, oo⟩ (by rw [HC.out]; simp [Cv.ch, turnC, turnK, k1,k2]) ⟨HS.out.1, HS.out.2.2, HS.out.2.1⟩ ho5 hg5)
              clear ho5 hg5 HOw HX HT
              go_wp2
              go_roundw
              case rel => exact ⟨k + 1, A5, C5, _, by omega, by go_num, rfl, HT5⟩
              case measure => simp [intOf]; omega
        exact AllReadyH.nil
      exact AllReadyH.nil
    · obtain rfl : k = n := by omega
      go_wp2
      go_ret
      have hz := HT.out.bel.size
      have hr := RdC.of_cells HT.out.own HT.out.len (fun c hc => by
        obtain ⟨g1, g2, g3⟩ := HT.out.sl c hc
        have hbl := HT.out.bel.mono hB
        exact ⟨(g1.below hbl).more (Nat.le_trans hB hz), (g2.below hbl).more (Nat.le_trans hB hz), (g3.below hbl).more (Nat.le_trans hB hz)⟩)
      rw [HT.out.ch, List.take_of_length_le (by rw [HL.out]; exact Nat.le_refl _)] at hr
      refine ⟨A3, C3, by rw [HL.out]; rfl, ?_, HT.out.bel⟩
      rw [HL.out]
      exact hr
end Go.Proofs.Ytlaneilmffdahaa.Mg
