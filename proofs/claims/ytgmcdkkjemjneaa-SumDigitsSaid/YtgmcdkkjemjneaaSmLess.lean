/- Less: the program's and the document's; the order of texts. -/
import Derived.Test.YtgmcdkkjemjneaaSmRHex
import Derived.Lib.BytesEntry
import Derived.Laws.Externs
namespace Go.Proofs.Ytgmcdkkjemjneaa.Sm
open Go.RowKit
set_option linter.unusedVariables false

/-- byte by byte -/
def ltL : List Int → List Int → Bool
  | a :: x, b :: y => if a = b then ltL x y else decide (a < b)
  | _, _ => false

theorem cmp_lt : ∀ (a b : List Int), a.length = b.length → (∀ x ∈ a, 0 ≤ x ∧ x ≤ 255) → (∀ x ∈ b, 0 ≤ x ∧ x ≤ 255) → decide (Lib.compareBytes (Lib.bytesOf a) (Lib.bytesOf b) < 0) = ltL a b
  | [], [], _, _, _ => rfl
  | x :: a, y :: b, hl, ha, hb => by
      have ih := cmp_lt a b (by simpa using hl) (fun z hz => ha z (List.mem_cons_of_mem _ hz)) (fun z hz => hb z (List.mem_cons_of_mem _ hz))
      obtain ⟨x0, x1⟩ := ha x (List.mem_cons_self ..)
      obtain ⟨y0, y1⟩ := hb y (List.mem_cons_self ..)
      have hx : (x.toNat.toUInt8).toNat = x.toNat := by simp; omega
      have hy : (y.toNat.toUInt8).toNat = y.toNat := by simp; omega
      show decide (Lib.compareBytes (x.toNat.toUInt8 :: Lib.bytesOf a) (y.toNat.toUInt8 :: Lib.bytesOf b) < 0) = _
      unfold Lib.compareBytes ltL
      by_cases e : x = y
      · subst e
        rw [if_neg (UInt8.lt_irrefl _), if_neg (UInt8.lt_irrefl _), if_pos rfl]
        exact ih
      · rw [if_neg e]
        by_cases h : x < y
        · rw [if_pos (by rw [UInt8.lt_iff_toNat_lt, hx, hy]; omega), decide_eq_true h]
          rfl
        · rw [if_neg (by rw [UInt8.lt_iff_toNat_lt, hx, hy]; omega), if_pos (by rw [UInt8.lt_iff_toNat_lt, hx, hy]; omega), decide_eq_false h]
          rfl
  | [], _ :: _, hl, _, _ => by simp at hl
  | _ :: _, [], hl, _, _ => by simp at hl

theorem load_any (w : World) (b off n c : Nat) (l : List Int) (hx : l.length = n) (hc : ∀ i, i < n → w.cell? ⟨b, off + i, none⟩ = some (.int .u8 (l.getD i 0))) :
    (Extern.Bytes.bytesOf (.slice (some ⟨b, off, none⟩) n c)).run Try.prog w = .ok ⟨(Lib.bytesOf l).toArray⟩ w := by
  have hl := Lib.run_loadBytesX (P := Try.prog) w l ⟨b, off, none⟩ .empty (fun j x hj => by
    have hjl : j < l.length := (List.getElem?_eq_some_iff.1 hj).1
    have e : (⟨b, off, none⟩ : Addr).add j = ⟨b, off + j, none⟩ := by unfold Addr.add; split <;> simp_all
    rw [e, hc j (by omega), List.getD_eq_getElem?_getD, hj]
    rfl)
  rw [hx] at hl
  have he : (⟨ByteArray.empty.data ++ (Lib.bytesOf l).toArray⟩ : ByteArray) = ⟨(Lib.bytesOf l).toArray⟩ := by
    apply ByteArray.ext
    show (#[] : Array UInt8) ++ (Lib.bytesOf l).toArray = (Lib.bytesOf l).toArray
    simp
  rw [he] at hl
  exact hl
theorem run_compareSlices (w : World) (a b n c c' : Nat) (x y : List Int) (hx : x.length = n) (hy : y.length = n) (hcx : ∀ i, i < n → w.cell? ⟨a, 0 + i, none⟩ = some (.int .u8 (x.getD i 0))) (hcy : ∀ i, i < n → w.cell? ⟨b, 0 + i, none⟩ = some (.int .u8 (y.getD i 0))) :
    (Extern.BytealgCompare.compare #[.slice (some ⟨a, 0, none⟩) n c, .slice (some ⟨b, 0, none⟩) n c']).run Try.prog w = .ok (.int .i64 (Lib.compareBytes (Lib.bytesOf x) (Lib.bytesOf y))) w := by
  change Sem.run Try.prog (do pure (goInt (Extern.BytealgCompare.cmp (← Extern.Bytes.bytesOf (.slice (some ⟨a, 0, none⟩) n c)) (← Extern.Bytes.bytesOf (.slice (some ⟨b, 0, none⟩) n c'))))) w = _
  simp only [Sem.run_bind, Sem.run_pure, load_any w a 0 n c x hx hcx, load_any w b 0 n c' y hy hcy, Result.andThen]
  rw [Lib.cmp_eq]
  rfl

theorem compare_any (w : World) (a b n c c' : Nat) (x y : List Int) (hx : x.length = n) (hy : y.length = n) (hcx : ∀ i, i < n → w.cell? ⟨a, 0 + i, none⟩ = some (.int .u8 (x.getD i 0))) (hcy : ∀ i, i < n → w.cell? ⟨b, 0 + i, none⟩ = some (.int .u8 (y.getD i 0))) :
    Calls Try.prog 28 #[.slice (some ⟨a, 0, none⟩) n c, .slice (some ⟨b, 0, none⟩) n c'] w fun e w' => e = .returned (.int .i64 (Lib.compareBytes (Lib.bytesOf x) (Lib.bytesOf y))) ∧ w' = w := by
  go_enter Try.func28, Try.ntmps28
  go_wp2
  rw [run_callFunc_extern Try.func31 (by kernel_rfl) (by kernel_rfl) (by kernel_rfl) (e := Extern.BytealgCompare.compare) (by kernel_rfl), run_compareSlices w a b n c c' x y hx hy hcx hcy]
  simp only [Result.andThen]
  rw [Oper.upon_value]
  go_wp2
  go_ret
  exact ⟨rfl, rfl⟩

/-- two Ids, boxed -/
theorem boxes (w : World) (a b : List Int) (ha : a.length = 32) (hb : b.length = 32) :
    ((w.alloc (.cells (bv a).toArray 27)).alloc (.cells (bv b).toArray 27)).rowIs w.heap.size 27 32 (fun j => .int .u8 (a.getD j 0)) ∧
    ((w.alloc (.cells (bv a).toArray 27)).alloc (.cells (bv b).toArray 27)).rowIs (w.heap.size + 1) 27 32 (fun j => .int .u8 (b.getD j 0)) ∧
    Below w.heap.size w ((w.alloc (.cells (bv a).toArray 27)).alloc (.cells (bv b).toArray 27)) := by
  have key : ∀ (w : World) (a : List Int), a.length = 32 → (w.alloc (.cells (bv a).toArray 27)).rowIs w.heap.size 27 32 (fun j => .int .u8 (a.getD j 0)) := by
    intro w a ha
    have h := row_new_list w (bv a) 27
    have hl : (bv a).length = 32 := by rw [bv, List.length_map, ha]
    rw [hl] at h
    exact h.congr (fun j hj => by simp [bv, List.getD, ha, hj])
  have hs : (w.alloc (.cells (bv a).toArray 27)).heap.size = w.heap.size + 1 := by show (w.heap.push _).size = _; simp
  refine ⟨World.rowIs.alloc (key w a ha) _, ?_, ((Below.refl w.heap.size w).alloc (Nat.le_refl _) _).alloc (by rw [hs]; omega) _⟩
  have h := key (w.alloc (.cells (bv a).toArray 27)) b hb
  rw [hs] at h
  exact h

set_option maxRecDepth 100000 in
theorem less_any (a b : List Int) (ha : a.length = 32) (hb : b.length = 32) (hra : ∀ x ∈ a, 0 ≤ x ∧ x ≤ 255) (hrb : ∀ x ∈ b, 0 ≤ x ∧ x ≤ 255) (w : World) :
    Calls Try.prog 19 #[.agg (bv a).toArray, .agg (bv b).toArray] w fun e w' => e = .returned (.bool (ltL a b)) ∧ Below w.heap.size w w' := by
  obtain ⟨h1, h2, h3⟩ := boxes w a b ha hb
  have HL := Lib.hid (cmp_lt a b (by rw [ha, hb]) hra hrb)
  have H1 := Lib.hid h1
  have H2 := Lib.hid h2
  have H3 := Lib.hid h3
  have HA := Lib.hid ha
  have HB := Lib.hid hb
  clear h1 h2 h3 hra hrb ha hb
  generalize hDa : bv a = Da at *
  generalize hDb : bv b = Db at *
  clear hDa hDb
  go_enter Try.func19, Try.ntmps19
  go_upto_region 1 with (fail)
  generalize (w.alloc (.cells Da.toArray 27)).alloc (.cells Db.toArray 27) = w2 at *
  generalize w.heap.size + 1 = G2 at *
  generalize hG : w.heap.size = G at *
  have HG := Lib.hid hG
  clear hG
  have HC := Lib.hid (fun (n : Nat) c c' => compare_any (w2.drewN n) G G2 32 c c' a b HA.out HB.out (fun i hi => by rw [Nat.zero_add]; exact H1.out.cell hi) (fun i hi => by rw [Nat.zero_add]; exact H2.out.cell hi))
  go_quiet ((go_at_call 28; with_reducible exact Calls.quiet_of_same (HC.out _ _ _)))
  go_wp2
  go_ret
  refine ⟨ret_bool HL.out, ?_⟩
  rw [HG.out]
  exact below_drewN H3.out _
end Go.Proofs.Ytgmcdkkjemjneaa.Sm
