/- codec.EncodeTree at one entry. -/
import Derived.Test.YtmcmapgllaopmaaCdText
import Derived.Deep.WholeRow
namespace Go.Proofs.Ytmcmapgllaopmaa.Cd
open Go.RowKit
set_option linter.unusedVariables false

theorem own_none (w : World) (B : Nat) : w.ownsRow B 5 1 (.slice none 0 0) 0 (bv []) := ⟨rfl, .inl ⟨rfl, rfl⟩⟩

theorem frz_new (w : World) (z : Array Value) (t : TypeId) (j : Nat) : (w.alloc (.cells z t)).frozen? ⟨w.heap.size, j, none⟩ = false := by
  have h : (w.alloc (.cells z t)).heap[w.heap.size]? = some (.cells z t (0, 0)) := by show (w.heap.push _)[w.heap.size]? = _; simp
  simp only [World.frozen?, h]
  simp

theorem range_ent {w : World} {b : Nat} {s : ByteArray} {k : Int} {ids : List Int} (h : w.rangeAt b 0 (ent s k ids)) : w.cell? ⟨b, 0, none⟩ = some (.string s) ∧ w.cell? ⟨b, 1, none⟩ = some (.int .i64 k) ∧ w.rangeAt b 2 (bv ids) :=
  ⟨h 0 _ rfl, h 1 _ rfl, fun j v hv => by
    have := h (j + 2) v hv
    rw [Nat.zero_add, Nat.add_comm] at this
    exact this⟩
theorem range_below {B : Nat} {w w' : World} (hb : Below B w w') {b o : Nat} {cs : List Value} (h : w.rangeAt b o cs) (hB : b < B) : w'.rangeAt b o cs :=
  fun j v hv => (hb.cell (p := ⟨b, o + j, none⟩) hB).trans (h j v hv)

theorem there_new (w : World) (z : Array Value) (t : TypeId) (n : Nat) (h : n ≤ z.size) : (w.alloc (.cells z t)).there w.heap.size 0 n := by
  intro j hj
  constructor
  · rw [Nat.zero_add, World.cell?_alloc_new]
    simp; omega
  · rw [Nat.zero_add]
    exact frz_new w z t j

theorem below_setCells {B : Nat} {a : World} (b : Nat) (hb : B ≤ b) : ∀ (vs : List Value) (o : Nat) (w : World), Below B a w → Below B a (w.setCells b o vs)
  | [], _, _, h => h
  | v :: vs, o, w, h => below_setCells b hb vs (o + 1) _ (h.setCell (p := ⟨b, o, none⟩) hb v)

set_option maxRecDepth 100000 in
set_option maxHeartbeats 1000000 in
theorem encodeTree_one (g : Nat) (ids : List Int) (hids : ids.length = 32) (hne : ids ≠ List.replicate 32 0) (w : World) (hg : g < w.heap.size) (hr : w.rangeAt g 0 (ent ⟨#[97]⟩ 1 ids)) :
    Calls Try.prog 12 #[.slice (some ⟨g, 0, none⟩) 1 1] w fun e w' => ∃ v, e = .returned (.tuple #[v, .int .i64 0]) ∧ w'.ownsRow w.heap.size 5 1 v 35 (bv (1 :: 1 :: 97 :: ids)) ∧ Below w.heap.size w w' := by
  obtain ⟨i0, hi, hz0, hz1, hz2⟩ := info_parts info5
  have hcl := ent_cells ⟨#[97]⟩ 1 ids
  have HL := Lib.hid (show (Try.prog.info? 87).map (·.size) = some (ent ⟨#[97]⟩ 1 ids).length by rw [ent, List.length_cons, List.length_cons, bv, List.length_map, hids]; kernel_rfl)
  have HR := Lib.hid hr
  clear hr
  have H1 := Lib.hid (show (ent ⟨#[97]⟩ 1 ids).toArray.all (·.oneCell') = true by
    refine all_oneCell_toArray fun v hv => ?_
    rcases List.mem_cons.1 hv with rfl | hv
    · rfl
    · rcases List.mem_cons.1 hv with rfl | hv
      · rfl
      · exact bv_one _ _ hv)
  have HS : Hid ((Try.prog.info? 87).map (·.size) = some (ent ⟨#[97]⟩ 1 ids).toArray.size) := Lib.hid (by rw [List.size_toArray]; exact HL.out)
  have hsz := Lib.hid (show (ent ⟨#[97]⟩ 1 ids).toArray.size ≤ 34 by rw [List.size_toArray, ent, List.length_cons, List.length_cons, bv, List.length_map, hids]; omega)
  generalize hE : ent ⟨#[97]⟩ 1 ids = E at *
  go_enter Try.func12, Try.ntmps12
  go_wp2_with fail
  go_loopw [4, 13] (fun b i wr => (b = .slice none 0 0 ∧ i = .int .i64 0 ∧ wr = w) ∨ (∃ v, b = v ∧ i = .int .i64 1 ∧ Hid (wr.ownsRow w.heap.size 5 1 v 35 (bv (1 :: 1 :: 97 :: ids))) ∧ Hid (Below w.heap.size w wr))) (fun _ i _ => 1 - (intOf i).toNat)
  case atStart => exact .inl ⟨rfl, rfl, rfl⟩
  case round =>
    rcases hrel with ⟨rfl, rfl, rfl⟩ | ⟨v, rfl, rfl, HO, HB⟩
    rotate_left 1
    · go_wp2
      go_ret2
      exact ⟨_, rfl, HO.out, HB.out⟩
    go_wp2_with (first
      | (refine wpList_load_mid rfl _ _ rfl g 0 rfl E _ HR.out Try.underlying87 rfl HL.out ?_)
      | (refine wpList_store_mid rfl _ _ _ rfl wr.heap.size 0 E.toArray rfl rfl (there_new wr _ _ _ hsz.out) HS.out H1.out ?_; generalize hX : World.setCells _ _ _ _ = wX; have HX := Lib.hid hX; clear hX))
    have hRX : wX.rangeAt wr.heap.size 0 E := by
      rw [← HX.out]
      exact World.rangeAt_setCells_same _ _ _ _ (there_new wr _ _ _ hsz.out)
    have HBX : Hid (Below wr.heap.size wr wX) := by
      rw [← HX.out]
      exact below_setCells _ (Nat.le_refl _) _ _ _ ((Below.refl _ _).alloc (Nat.le_refl _) _)
    have hlt : wr.heap.size < wX.heap.size := by
      rw [← HX.out]
      exact Nat.lt_of_lt_of_le (al_lt wr _) (below_setCells (B := 0) _ (Nat.zero_le _) _ _ _ (Below.refl 0 _)).size
    clear HX
    have HSa : Hid (wX.drew.rangeAt wr.heap.size 0 E) := Lib.hid ((World.rangeAt_drew _ _ _ _).2 hRX)
    have HBD : Hid (Below wr.heap.size wr wX.drew) := Lib.hid HBX.out.drew
    have hlt2 : wr.heap.size < wX.drew.heap.size := hlt
    clear hRX
    have hEE := HL.out
    refine wp_region_noPanic ?_
    refine wp_region_held_drew (S := (fun wS => wS.rangeAt wr.heap.size 0 E)) (by kernel_rfl) ?_ (fun hHeld => ?_)
    · ((try dsimp only); exact HSa.out)
    refine' wpAnyH_take (i := 0) (oi := { dst := some 18, op := Op.load 87 (Operand.tmp 6), type := 87, pos := "tree.go:12", after := #[], guard := none }) (v := _) rfl (by kernel_rfl) (by kernel_rfl) (by kernel_rfl) (fun _ _ _ h => h) (yieldsIf_load_mid (by rfl) _ _ rfl _ _ rfl E _ (fun w hSw => hSw) Try.underlying87 rfl HL.out) (by assumption) ?_
    (try simp only [Act.put, List.setIfInBounds_toArray, List.set_cons_zero, List.set_cons_succ])
    refine wpAnyH_take (i := 1) (oi := { dst := some 19, op := Op.move (Operand.tmp 0), type := 22, pos := "tree.go:12", after := #[], guard := none }) (v := ?_) rfl (by kernel_rfl) (by kernel_rfl) (by kernel_rfl) (fun _ _ _ h => h) (Or.inl ⟨by rfl, ?_⟩) (by assumption) ?_
    rotate_left 1
    · ((intro w hSw; (try dsimp only at hSw); go_simp) <;> with_reducible rfl)
    (try simp only [Act.put, List.setIfInBounds_toArray, List.set_cons_zero, List.set_cons_succ])
    refine wpAnyH_take (i := 2) (oi := { dst := some 20, op := Op.move (Operand.tmp 5), type := 3, pos := "tree.go:12", after := #[], guard := none }) (v := ?_) rfl (by kernel_rfl) (by kernel_rfl) (by kernel_rfl) (fun _ _ _ h => h) (Or.inl ⟨by rfl, ?_⟩) (by assumption) ?_
    rotate_left 1
    · ((intro w hSw; (try dsimp only at hSw); go_simp) <;> with_reducible rfl)
    (try simp only [Act.put, List.setIfInBounds_toArray, List.set_cons_zero, List.set_cons_succ])
    refine wpAnyH_take (i := 3) (oi := { dst := some 21, op := Op.slice 22 (Operand.tmp 19) none (some (Operand.tmp 20)) none, type := 22, pos := "tree.go:12", after := #[{ on := 1, ground := Ground.data }, { on := 2, ground := Ground.data }], guard := none }) (v := ?_) rfl (by kernel_rfl) (by kernel_rfl) (by kernel_rfl) (fun _ _ _ h => h) (Or.inl ⟨by rfl, ?_⟩) (by assumption) ?_
    rotate_left 1
    · ((intro w hSw; (try dsimp only at hSw); go_simp) <;> with_reducible rfl)
    (try simp only [Act.put, List.setIfInBounds_toArray, List.set_cons_zero, List.set_cons_succ])
    refine wpAnyH_ready (rs := [4]) (by kernel_rfl) (by simp) ?_
    refine AllReadyH.cons (o := { dst := some 22, op := Op.call { callee := Callee.value (Operand.func 40), args := #[Operand.tmp 18, Operand.tmp 21], argTypes := #[87, 22] }, type := 25, pos := "tree.go:12", after := #[{ on := 0, ground := Ground.data }, { on := 3, ground := Ground.data }], guard := none }) rfl (fun K hK => ?_) ?_
    · go_simp
      rw [← hE]
      refine (checkEntry_one _ _ ids hids hne _).mono ?_
      rintro e w7 ⟨rfl, hb7⟩
      rw [hE]
      have HB7 := Lib.hid (HBD.out.trans (hb7.mono (Nat.le_of_lt hlt2)))
      have HSa := Lib.hid (range_below hb7 HSa.out hlt2)
      have hsz7 := hb7.size
      clear hb7
      (try go_wp2_with fail)
      refine hK.out _ _ ?_ (fun hNew => ?_)
      · ((try dsimp only); exact HSa.out)
      clear hK K hHeld
      have hHeld := hNew
      clear hNew
      (try simp only [Act.put, List.setIfInBounds_toArray, List.set_cons_zero, List.set_cons_succ])
      refine wpAnyH_take (i := 5) (oi := { dst := some 7, op := Op.assign (Operand.tmp 22), type := 25, pos := "tree.go:12", after := #[{ on := 4, ground := Ground.data }, { on := 4, ground := Ground.chain }, { on := 0, ground := Ground.phase }, { on := 1, ground := Ground.phase }, { on := 2, ground := Ground.phase }, { on := 3, ground := Ground.phase }, { on := 4, ground := Ground.phase }], guard := none }) (v := ?_) rfl (by kernel_rfl) (by kernel_rfl) (by kernel_rfl) (fun _ _ _ h => h) (Or.inl ⟨by rfl, ?_⟩) (by assumption) ?_
      rotate_left 1
      · ((intro w hSw; (try dsimp only at hSw); go_simp) <;> with_reducible rfl)
      (try simp only [Act.put, List.setIfInBounds_toArray, List.set_cons_zero, List.set_cons_succ])
      refine wpAnyH_done (by kernel_rfl) ?_ _
      refine NoPanic.normal ?_
      have hEE := HSa.out
      rw [← hE] at hEE
      obtain ⟨hc0, hc1, hr2⟩ := range_ent hEE
      have hszw := HB7.out.size
      have hltw : wr.heap.size < w7.heap.size := Nat.lt_of_lt_of_le hlt2 hsz7
      have HR2 := Lib.hid hr2
      have HC0 := Lib.hid hc0
      clear hEE hc0 hr2
      go_wp2_with (at_builtin; refine wpList_append_own _ rfl _ _ 23 rfl w7.heap.size 5 i0 (.int .u8 0) 1 1 Try.underlying23 hi hz0 hz1 hz2 rfl (by decide) _ 0 (bv []) rfl (own_none _ _) ⟨w7.heap.size, 0, none⟩ 1 1 (bv [1]) rfl rfl ?c1 (bv_one _) ?c3 ?c4 ?c5 ?_)
      case c1 => exact new_cells [1] w7 _
      case c3 => unfold maxLen; omega
      case c4 => omega
      case c5 => exact al_le w7 _
      intro v8 w8 ho8 hg8 hnil8
      have hb78 : Below w7.heap.size w7 w8 := ((Below.refl w7.heap.size w7).alloc (Nat.le_refl _) (.cells (bv [1]).toArray 5)).trans (below_grown (al_le w7 _) (own_none _ _) hg8)
      have HB8 := Lib.hid (HB7.out.trans (hb78.mono hszw))
      have hc8 : w8.cell? ⟨wr.heap.size, 0, none⟩ = some (.string ⟨#[97]⟩) := (hb78.cell (p := ⟨wr.heap.size, 0, none⟩) hltw).trans HC0.out
      have HR8 := Lib.hid (range_below hb78 HR2.out hltw)
      have HO8 := Lib.hid ho8
      have hsz8 := hb78.size
      clear ho8 hg8 hnil8 hb78 hc1
      go_wp2_with fail
      refine (text_any w7.heap.size v8 _ _ ⟨#[97]⟩ 1 w8 hsz8 HO8.out (by omega) (by decide) (by omega)).mono ?_
      rintro e w9 ⟨v9, rfl, ho9, hb9⟩
      have HB9 := Lib.hid (HB8.out.trans (hb9.mono hszw))
      have hsz79 := Nat.le_trans hsz8 hb9.size
      have HO9 := Lib.hid ho9
      clear ho9 hc8
      have HR9 : Hid (∀ j u, (bv ids)[j]? = some u → w9.cell? (Addr.add ⟨wr.heap.size, 2, none⟩ j) = some u) := Lib.hid (fun j u hj => by
        rw [Addr.add_mid]
        exact (hb9.cell (p := ⟨wr.heap.size, 2 + j, none⟩) hltw).trans (HR8.out j u hj))
      have hsz9 := hb9.size
      clear hb9
      go_wp2_with (at_builtin; refine wpList_append_own _ rfl _ _ 23 rfl w7.heap.size 5 i0 (.int .u8 0) 1 1 Try.underlying23 hi hz0 hz1 hz2 rfl (by decide) _ _ _ rfl HO9.out ⟨wr.heap.size, 2, none⟩ 32 32 (bv ids) rfl (by rw [bv, List.length_map, hids]) HR9.out (bv_one _) ?c3 ?c4 ?c5 ?_)
      case c3 => show _ ≤ maxLen; rw [show (ByteArray.mk #[97]).size = 1 from rfl]; unfold maxLen; omega
      case c4 => rw [show (ByteArray.mk #[97]).size = 1 from rfl]; omega
      case c5 => exact hsz79
      intro v10 w10 ho10 hg10 hnil10
      have HO10 := Lib.hid (own_base (own_eq (ys := bv (1 :: 1 :: 97 :: ids)) (m := 35) ho10 (by simp [bv, be, Lib.strCells]) (by rfl)) hszw)
      have HB10 := Lib.hid (HB9.out.trans ((below_grown hsz79 HO9.out hg10).mono hszw))
      clear ho10 hg10 hnil10
      go_wp2_with fail
      go_roundw
      case rel => exact .inr ⟨_, rfl, by go_num, HO10, HB10⟩
      case measure => simp [intOf]
    exact AllReadyH.nil
end Go.Proofs.Ytmcmapgllaopmaa.Cd
