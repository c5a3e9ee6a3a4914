/- Entries are compared; the same list is the same. -/
import Derived.Test.YtmcmapgllaopmaaCdRTreeN
namespace Go.Proofs.Ytmcmapgllaopmaa.Cd
open Go.RowKit
set_option linter.unusedVariables false

theorem entFields : ∃ f0 f1 f2 : Field, (Try.prog.fieldsOf 87).toList = [f0, f1, f2] ∧ f0.name ≠ "_" ∧ f1.name ≠ "_" ∧ f2.name ≠ "_" ∧ f0.type = 9 ∧ f1.type = 3 ∧ f2.type = 37 ∧ f0.offset = 0 ∧ f1.offset = 1 ∧ f2.offset = 2 := by
  unfold Program.fieldsOf
  rw [Try.underlying87]
  exact ⟨_, _, _, rfl, by decide, by decide, by decide, rfl, rfl, rfl, rfl, rfl, rfl⟩
theorem part_id (s : ByteArray) (k : Int) (ids : List Int) (hl : ids.length = 32) (w : World) : (part 37 (ent s k ids).toArray 2).run Try.prog w = .ok (.agg (bv ids).toArray) w := by
  obtain ⟨i, hi⟩ := info_of_underlying (P := Try.prog) Try.underlying37
  have hs : (Try.prog.info? 37).map (·.size) = some 32 := by kernel_rfl
  rw [hi] at hs
  have hsz : i.size = 32 := by simpa using hs
  have he : List.take 32 (List.drop 2 (ent s k ids)) = bv ids := by
    rw [show List.drop 2 (ent s k ids) = bv ids from rfl, List.take_of_length_le (by rw [bv_len]; omega)]
  unfold part isAgg
  simp only [Sem.run_bind, run_underlying Try.underlying37, Result.andThen_ok, Sem.run_pure]
  simp [sizeOf, typeInfo, hi, hsz, he]

theorem ids_eq9998 (a b : List Int) (ha : a.length = 32) (hb : b.length = 32) (w : World) :
    (Op.equalIn 9999 37 (.agg (bv a).toArray) (.agg (bv b).toArray)).run Try.prog w = .ok (decide (a = b)) w := by
  obtain ⟨i, hi⟩ := info_of_underlying (P := Try.prog) Try.underlying5
  rw [run_equalIn_array w 9998 (n := 32) (e := 5) (bv a).toArray (bv b).toArray Try.underlying37 hi, show Try.prog.cellsOf 5 = 1 from by kernel_rfl]
  rw [items_eq 9997 a b w _ (fun i hi => by have := List.mem_range.1 hi; omega), all_range a b 32 ha hb]

theorem fields3 {w : World} {d : Nat} {E : Array Value} {f0 f1 f2 : Field} {v0 v1 v2 : Value} (n0 : f0.name ≠ "_") (n1 : f1.name ≠ "_") (n2 : f2.name ≠ "_")
    (p0 : (part f0.type E f0.offset).run Try.prog w = .ok v0 w) (p1 : (part f1.type E f1.offset).run Try.prog w = .ok v1 w) (p2 : (part f2.type E f2.offset).run Try.prog w = .ok v2 w)
    (q0 : (Op.equalIn d f0.type v0 v0).run Try.prog w = .ok true w) (q1 : (Op.equalIn d f1.type v1 v1).run Try.prog w = .ok true w) (q2 : (Op.equalIn d f2.type v2 v2).run Try.prog w = .ok true w) :
    (Op.eqFields d E E [f0, f1, f2]).run Try.prog w = .ok true w := by
  simp only [Op.eqFields, n0, n1, n2, ne_eq, not_false_eq_true, if_true, Sem.run_bind, p0, p1, p2, q0, q1, q2, Result.andThen_ok, Bool.not_true, Bool.false_eq_true, if_false, Sem.run_pure]

theorem ent_self (s : ByteArray) (k : Int) (ids : List Int) (hl : ids.length = 32) (w : World) :
    (Op.equalIn 10000 87 (.agg (ent s k ids).toArray) (.agg (ent s k ids).toArray)).run Try.prog w = .ok true w := by
  obtain ⟨f0, f1, f2, hf, n0, n1, n2, t0, t1, t2, o0, o1, o2⟩ := entFields
  have hu : Try.prog.underlying 87 = some (.struct (Try.prog.fieldsOf 87)) := by
    unfold Program.fieldsOf
    rw [Try.underlying87]
  rw [run_equalIn_struct w 9999 87 _ _ hu (by kernel_rfl), hf]
  have p0 := run_part_plain (P := Try.prog) w (e := 9) (by kernel_rfl) (xs := (ent s k ids).toArray) (off := 0) (v := .string s) rfl
  have p1 := run_part_plain (P := Try.prog) w (e := 3) (by kernel_rfl) (xs := (ent s k ids).toArray) (off := 1) (v := .int .i64 k) rfl
  have p2 := part_id s k ids hl w
  have q2 := ids_eq9998 ids ids hl hl w
  have q0 : (Op.equalIn 9999 9 (.string s) (.string s)).run Try.prog w = .ok (s.toList == s.toList) w := run_equalIn_string w 9998 9 s s Try.underlying9
  have q1 : (Op.equalIn 9999 3 (.int .i64 k) (.int .i64 k)).run Try.prog w = .ok (k == k) w := run_equalIn_int w 9998 3 .i64 .i64 k k Try.underlying3
  rw [beq_self_eq_true] at q0 q1
  rw [decide_eq_true rfl] at q2
  generalize (ent s k ids).toArray = E at *
  generalize Value.agg (bv ids).toArray = V at *
  rw [← t0, ← o0] at p0
  rw [← t1, ← o1] at p1
  rw [← t2, ← o2] at p2
  rw [← t0] at q0
  rw [← t1] at q1
  rw [← t2] at q2
  exact fields3 n0 n1 n2 p0 p1 p2 q0 q1 q2

set_option maxRecDepth 100000 in
set_option maxHeartbeats 400000 in
theorem sameE_any (A : Option Addr) (n C : Nat) (A' : Option Addr) (C' : Nat) (es : List Fr.Ent) (w : World) (h : RdE w A n C es) (h' : RdE w A' n C' es) :
    Calls Try.prog 16 #[.slice A n C, .slice A' n C'] w fun e w' => e = .returned (.bool true) ∧ Below w.heap.size w w' := by
  have HR1 := Lib.hid h
  have HR2 := Lib.hid h'
  have hc1 := h.cap
  have hm1 := h.max
  have hc2 := h'.cap
  have hm2 := h'.max
  have hbig := h.big
  have HL := Lib.hid h.len
  have HB0 := Lib.hid (Below.refl w.heap.size w)
  clear h h'
  go_enter Try.func16, Try.ntmps16
  go_wp2_with fail
  go_loopw [5] (fun s wr => ∃ k : Nat, s = .int .i64 k ∧ k ≤ n ∧ Hid (RdE wr A n C es) ∧ Hid (RdE wr A' n C' es) ∧ Hid (Below w.heap.size w wr)) (fun s _ => n - (intOf s).toNat)
  case atStart => exact ⟨0, rfl, Nat.zero_le _, HR1, HR2, HB0⟩
  case round =>
    clear HR1 HR2 HB0
    obtain ⟨k, rfl, hk, HR1, HR2, HB⟩ := hrel
    by_cases hlt : k < n
    · obtain ⟨g, o, rfl, hg, hcc⟩ := HR1.out.cell (by omega)
      obtain ⟨g2, o2, rfl, hg2, hcc2⟩ := HR2.out.cell (by omega)
      have hok := (HR1.out.ok _ (getDE_mem (k := k) (by have := HL.out; omega))).1
      have hx1 := hcc k hlt
      have hx2 := hcc2 k hlt
      have hself := fun W => ent_self (es.getD k default).name (es.getD k default).kind (es.getD k default).id hok W
      have hen : (es.getD k default).cells = ent (es.getD k default).name (es.getD k default).kind (es.getD k default).id := rfl
      rw [hen] at hx1 hx2
      have hS1 : Hid ((Try.prog.info? 87).map (·.size) = some (ent (es.getD k default).name (es.getD k default).kind (es.getD k default).id).length) := Lib.hid (by rw [ent_length _ _ _ hok]; kernel_rfl)
      generalize ent (es.getD k default).name (es.getD k default).kind (es.getD k default).id = EL at *
      have HX1 := Lib.hid hx1
      have HX2 := Lib.hid hx2
      have hk0 : (0 : Int) ≤ (k : Int) := by omega
      have hk1 : (k : Int) < (n : Int) := by omega
      have hkn : k < n := hlt
      have HR1d : Hid (RdE wr.drew (some ⟨g, o, none⟩) n C es) := Lib.hid ⟨HR1.out.len, HR1.out.cap, HR1.out.max, HR1.out.big, HR1.out.ok, HR1.out.cell⟩
      have HR2d : Hid (RdE wr.drew (some ⟨g2, o2, none⟩) n C' es) := Lib.hid ⟨HR2.out.len, HR2.out.cap, HR2.out.max, HR2.out.big, HR2.out.ok, HR2.out.cell⟩
      have HBd := Lib.hid HB.out.drew
      clear hx1 hx2 hcc hcc2 hok hen HR1 HR2 HB hg hg2
      go_wp2_with fail
      refine wp_region_noPanic ?_
      refine wp_region_held_drew (S := (fun wS => wS.rangeAt g (o + k * 34) EL ∧ wS.rangeAt g2 (o2 + k * 34) EL)) (by kernel_rfl) ?_ (fun hHeld => ?_)
      · ((try dsimp only); exact ⟨HX1.out, HX2.out⟩)
      refine wpAnyH_take (i := 0) (oi := { dst := some 17, op := Op.move (Operand.tmp 0), type := 22, pos := "law.go:32", after := #[], guard := none }) (v := ?_) rfl (by kernel_rfl) (by kernel_rfl) (by kernel_rfl) (fun _ _ _ h => h) (Or.inl ⟨by rfl, ?_⟩) (by assumption) ?_
      rotate_left 1
      · ((intro w hSw; (try dsimp only at hSw); go_simp) <;> with_reducible rfl)
      (try simp only [Act.put, List.setIfInBounds_toArray, List.set_cons_zero, List.set_cons_succ])
      refine wpAnyH_take (i := 1) (oi := { dst := some 18, op := Op.move (Operand.tmp 5), type := 3, pos := "law.go:32", after := #[], guard := none }) (v := ?_) rfl (by kernel_rfl) (by kernel_rfl) (by kernel_rfl) (fun _ _ _ h => h) (Or.inl ⟨by rfl, ?_⟩) (by assumption) ?_
      rotate_left 1
      · ((intro w hSw; (try dsimp only at hSw); go_simp) <;> with_reducible rfl)
      (try simp only [Act.put, List.setIfInBounds_toArray, List.set_cons_zero, List.set_cons_succ])
      refine wpAnyH_take (i := 2) (oi := { dst := some 19, op := Op.indexAddr 22 (Operand.tmp 17) (Operand.tmp 18), type := 0, pos := "law.go:32", after := #[{ on := 0, ground := Ground.data }, { on := 1, ground := Ground.data }], guard := none }) (v := ?_) rfl (by kernel_rfl) (by kernel_rfl) (by kernel_rfl) (fun _ _ _ h => h) (Or.inl ⟨by rfl, ?_⟩) (by assumption) ?_
      rotate_left 1
      · ((intro w hSw; (try dsimp only at hSw); go_simp) <;> with_reducible rfl)
      (try simp only [Act.put, List.setIfInBounds_toArray, List.set_cons_zero, List.set_cons_succ])
      refine' wpAnyH_take (i := 3) (oi := { dst := some 20, op := Op.load 87 (Operand.tmp 19), type := 87, pos := "law.go:32", after := #[{ on := 2, ground := Ground.data }], guard := none }) (v := _) rfl (by kernel_rfl) (by kernel_rfl) (by kernel_rfl) (fun _ _ _ h => h) (yieldsIf_load_mid (by rfl) _ _ rfl _ _ rfl EL _ (fun w hSw => hSw.1) Try.underlying87 rfl hS1.out) (by assumption) ?_
      (try simp only [Act.put, List.setIfInBounds_toArray, List.set_cons_zero, List.set_cons_succ])
      refine wpAnyH_take (i := 4) (oi := { dst := some 21, op := Op.move (Operand.tmp 1), type := 22, pos := "law.go:32", after := #[], guard := none }) (v := ?_) rfl (by kernel_rfl) (by kernel_rfl) (by kernel_rfl) (fun _ _ _ h => h) (Or.inl ⟨by rfl, ?_⟩) (by assumption) ?_
      rotate_left 1
      · ((intro w hSw; (try dsimp only at hSw); go_simp) <;> with_reducible rfl)
      (try simp only [Act.put, List.setIfInBounds_toArray, List.set_cons_zero, List.set_cons_succ])
      refine wpAnyH_take (i := 5) (oi := { dst := some 22, op := Op.move (Operand.tmp 5), type := 3, pos := "law.go:32", after := #[], guard := none }) (v := ?_) rfl (by kernel_rfl) (by kernel_rfl) (by kernel_rfl) (fun _ _ _ h => h) (Or.inl ⟨by rfl, ?_⟩) (by assumption) ?_
      rotate_left 1
      · ((intro w hSw; (try dsimp only at hSw); go_simp) <;> with_reducible rfl)
      (try simp only [Act.put, List.setIfInBounds_toArray, List.set_cons_zero, List.set_cons_succ])
      refine wpAnyH_take (i := 6) (oi := { dst := some 23, op := Op.indexAddr 22 (Operand.tmp 21) (Operand.tmp 22), type := 0, pos := "law.go:32", after := #[{ on := 4, ground := Ground.data }, { on := 5, ground := Ground.data }], guard := none }) (v := ?_) rfl (by kernel_rfl) (by kernel_rfl) (by kernel_rfl) (fun _ _ _ h => h) (Or.inl ⟨by rfl, ?_⟩) (by assumption) ?_
      rotate_left 1
      · ((intro w hSw; (try dsimp only at hSw); go_simp) <;> with_reducible rfl)
      (try simp only [Act.put, List.setIfInBounds_toArray, List.set_cons_zero, List.set_cons_succ])
      refine' wpAnyH_take (i := 7) (oi := { dst := some 24, op := Op.load 87 (Operand.tmp 23), type := 87, pos := "law.go:32", after := #[{ on := 6, ground := Ground.data }], guard := none }) (v := _) rfl (by kernel_rfl) (by kernel_rfl) (by kernel_rfl) (fun _ _ _ h => h) (yieldsIf_load_mid (by rfl) _ _ rfl _ _ rfl EL _ (fun w hSw => hSw.2) Try.underlying87 rfl hS1.out) (by assumption) ?_
      (try simp only [Act.put, List.setIfInBounds_toArray, List.set_cons_zero, List.set_cons_succ])
      refine wpAnyH_take (i := 8) (oi := { dst := some 25, op := Op.binOp BinOp.neq 87 (Operand.tmp 20) (Operand.tmp 24) 87, type := 4, pos := "law.go:32", after := #[{ on := 3, ground := Ground.data }, { on := 7, ground := Ground.data }], guard := none }) (v := ?_) rfl (by kernel_rfl) (by kernel_rfl) (by kernel_rfl) (fun _ _ _ h => h) (Or.inl ⟨by rfl, ?_⟩) (by assumption) ?_
      rotate_left 1
      · ((intro w hSw; (try dsimp only at hSw); go_simp) <;> with_reducible rfl)
      (try simp only [Act.put, List.setIfInBounds_toArray, List.set_cons_zero, List.set_cons_succ])
      refine wpAnyH_done (by kernel_rfl) ?_ _
      refine NoPanic.normal ?_
      skip
      go_wp2_with fail
      go_roundw
      case rel => exact ⟨k + 1, by go_num, by omega, HR1d, HR2d, HBd⟩
      case measure => simp [intOf]; omega
    · have hd : decide ((k : Int) < (n : Int)) = false := by simp; omega
      have hd2 : ¬ k < n := hlt
      go_wp2_with fail
      go_ret
      exact ⟨rfl, HB.out⟩
end Go.Proofs.Ytmcmapgllaopmaa.Cd
