/- The document's Hex. -/
import Derived.Test.YtgmcdkkjemjneaaSmOf
import Derived.Test.YtgmcdkkjemjneaaSmHex
import Derived.Deep.RegionHeld3
namespace Go.Proofs.Ytgmcdkkjemjneaa.Sm
open Go.RowKit
set_option linter.unusedVariables false

def h16 : ByteArray := ⟨#[48, 49, 50, 51, 52, 53, 54, 55, 56, 57, 97, 98, 99, 100, 101, 102]⟩
theorem fold_data (l : List Int) : ∀ r : ByteArray, (l.foldl (fun r n => r.push (UInt8.ofNat n.toNat)) r).data.toList = r.data.toList ++ l.map (fun n => UInt8.ofNat n.toNat) := by
  induction l with
  | nil => intro r; simp
  | cons x l ih =>
    intro r
    rw [List.foldl_cons, ih]
    simp [ByteArray.push]
theorem sb_data (l : List Int) : (sb l).data.toList = l.map (fun n => UInt8.ofNat n.toNat) := by
  rw [sb, fold_data]; simp
theorem sb_size (l : List Int) : (sb l).size = l.length := by
  have h := congrArg List.length (sb_data l)
  simpa using h
theorem ba_ext {a b : ByteArray} (h : a.data.toList = b.data.toList) : a = b := by
  apply ByteArray.ext
  exact Array.toList_inj.1 h
theorem sb_app (a b : List Int) : sb a ++ sb b = sb (a ++ b) := by
  apply ba_ext
  rw [sb_data, ByteArray.data_append, Array.toList_append, sb_data, sb_data, List.map_append]
theorem str_add (a b : ByteArray) (h : a.size + b.size ≤ 1000) : Op.stringOp .add a b = pure (.string (a ++ b)) := by
  unfold Op.stringOp
  have e : IntKind.i64.max = 9223372036854775807 := rfl
  simp only [e]
  rw [if_neg (by omega)]
theorem h16_at (d : Int) (h0 : 0 ≤ d) (h1 : d < 16) : h16.extract d.toNat (d + 1).toNat = sb [hexd d] := by
  apply ba_ext
  rw [sb_data]
  rcases (show d = 0 ∨ d = 1 ∨ d = 2 ∨ d = 3 ∨ d = 4 ∨ d = 5 ∨ d = 6 ∨ d = 7 ∨ d = 8 ∨ d = 9 ∨ d = 10 ∨ d = 11 ∨ d = 12 ∨ d = 13 ∨ d = 14 ∨ d = 15 from by omega) with rfl | rfl | rfl | rfl | rfl | rfl | rfl | rfl | rfl | rfl | rfl | rfl | rfl | rfl | rfl | rfl <;> rfl
theorem hexL_take (ids : List Int) (k : Nat) (hk : k < 32) : (hexL ids).take (2 * (k + 1)) = (hexL ids).take (2 * k) ++ [hexd (ids.getD k 0 / 16)] ++ [hexd (ids.getD k 0 % 16)] := by
  have hl : (hexL ids).length = 64 := by simp [hexL]
  rw [show 2 * (k + 1) = 2 * k + 1 + 1 by omega, List.take_succ_eq_append_getElem (by omega), List.take_succ_eq_append_getElem (by omega)]
  simp [hexL, hexAt, show (2 * k + 1) % 2 = 1 by omega, show (2 * k + 1) / 2 = k by omega]

set_option maxRecDepth 100000 in
set_option maxHeartbeats 1000000 in
theorem rhex_any (ids : List Int) (hids : ids.length = 32) (hr : ∀ i, i < 32 → 0 ≤ ids.getD i 0 ∧ ids.getD i 0 ≤ 255) (w : World) :
    Calls Try.prog 18 #[.agg (bv ids).toArray] w fun e w' => e = .returned (.string (sb (hexL ids))) ∧ Below w.heap.size w w' := by
  have HR := Lib.hid hr
  have HI : Hid ((w.alloc (.cells (bv ids).toArray 27)).rowIs w.heap.size 27 32 (fun j => .int .u8 (ids.getD j 0))) := Lib.hid (by
    have h := row_new_list w (bv ids) 27
    have hl : (bv ids).length = 32 := by rw [bv, List.length_map, hids]
    rw [hl] at h
    exact h.congr (fun j hj => by simp [bv, List.getD, hids, hj]))
  have HB := Lib.hid ((Below.refl w.heap.size w).alloc (Nat.le_refl _) (.cells (bv ids).toArray 27))
  generalize hD : bv ids = D at *
  clear hr hids hD
  go_enter Try.func18, Try.ntmps18
  go_upto_region 1 with (fail)
  generalize w.alloc (.cells D.toArray 27) = w1 at *
  generalize hO : w.heap.size = O at *
  have HO := Lib.hid hO
  clear hO
  go_wp2_with fail
  go_loopw [4, 5] (fun s4 s5 wr => ∃ k n : Nat, s5 = .int .i64 k ∧ k ≤ 32 ∧ s4 = .string (sb ((hexL ids).take (2 * k))) ∧ wr = w1.drewN n) (fun _ s5 _ => 32 - (intOf s5).toNat)
  case atStart => exact ⟨0, 0, rfl, by omega, rfl, rfl⟩
  case round =>
    obtain ⟨k, n, rfl, hk, rfl, rfl⟩ := hrel
    by_cases hlt : k < 32
    · have hk0 : (0 : Int) ≤ (k : Int) := by omega
      have hk1 : (k : Int) < 32 := by omega
      have hc : w1.cell? ⟨O, k, none⟩ = some (.int .u8 (ids.getD k 0)) := HI.out.cell hlt
      have hx := HR.out k hlt
      have hx0 := hx.1
      have hx1 := hx.2
      have ha := and15 (ids.getD k 0) hx.1 hx.2
      clear hx
      generalize hX : ids.getD k 0 = x at *
      have HX := Lib.hid hX
      clear hX
      obtain ⟨d, hd⟩ : ∃ d, d = x / 16 := ⟨_, rfl⟩
      obtain ⟨f, hf⟩ : ∃ f, f = x % 16 := ⟨_, rfl⟩
      obtain ⟨d1, hd1⟩ : ∃ d1, d1 = d + 1 := ⟨_, rfl⟩
      obtain ⟨f1, hf1⟩ : ∃ f1, f1 = f + 1 := ⟨_, rfl⟩
      rw [← hf] at ha
      have e1 : x / 16 = d := hd.symm
      have e2 : d + 1 = d1 := hd1.symm
      have e3 : f + 1 = f1 := hf1.symm
      have d0 : 0 ≤ d := by omega
      have d16 : d1 ≤ 16 := by omega
      have dd : d ≤ d1 := by omega
      have f0 : 0 ≤ f := by omega
      have f16 : f1 ≤ 16 := by omega
      have ff : f ≤ f1 := by omega
      have wd : IntKind.u8.wrap d1 = d1 := by simp [IntKind.wrap, IntKind.signed, IntKind.bits]; omega
      have wf : IntKind.u8.wrap f1 = f1 := by simp [IntKind.wrap, IntKind.signed, IntKind.bits]; omega
      have hE1 : ({ data := #[48, 49, 50, 51, 52, 53, 54, 55, 56, 57, 97, 98, 99, 100, 101, 102] } : ByteArray).extract d.toNat d1.toNat = sb [hexd d] := by rw [hd1]; exact h16_at d d0 (by omega)
      have hE2 : ({ data := #[48, 49, 50, 51, 52, 53, 54, 55, 56, 57, 97, 98, 99, 100, 101, 102] } : ByteArray).extract f.toNat f1.toNat = sb [hexd f] := by rw [hf1]; exact h16_at f f0 (by omega)
      have hA1 := str_add (sb ((hexL ids).take (2 * k))) (sb [hexd d]) (by rw [sb_size, sb_size, List.length_take]; simp; omega)
      have hA2 := str_add (sb ((hexL ids).take (2 * k)) ++ sb [hexd d]) (sb [hexd f]) (by rw [sb_app, sb_size, sb_size, List.length_append, List.length_take]; simp; omega)
      have HN : Hid (sb ((hexL ids).take (2 * k)) ++ sb [hexd d] ++ sb [hexd f] = sb ((hexL ids).take (2 * (k + 1)))) := Lib.hid (by
        rw [sb_app, sb_app, hexL_take ids k hlt, HX.out, hd, hf])
      clear hd hf hd1 hf1
      generalize sb [hexd d] = E1 at *
      generalize sb [hexd f] = E2 at *
      generalize sb ((hexL ids).take (2 * k)) = S at *
      go_wp2_with fail
      go_quiet (fail)
      go_wp2_with fail
      go_roundw
      case rel => exact ⟨k + 1, n + nq, by go_num, by omega, by rw [HN.out], rfl⟩
      case measure => simp [intOf]; omega
    · have ek : k = 32 := by omega
      subst ek
      have HN : Hid (sb ((hexL ids).take (2 * 32)) = sb (hexL ids)) := Lib.hid (by rw [List.take_of_length_le (by simp [hexL])])
      generalize sb ((hexL ids).take (2 * 32)) = S at *
      go_wp2_with fail
      go_ret
      refine ⟨by rw [HN.out]; rfl, ?_⟩
      rw [HO.out]
      exact below_drewN HB.out n
end Go.Proofs.Ytgmcdkkjemjneaa.Sm
