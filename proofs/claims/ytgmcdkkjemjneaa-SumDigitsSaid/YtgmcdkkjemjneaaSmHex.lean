/- Hex. -/
import Derived.Test.YtgmcdkkjemjneaaSmAbc
import Derived.Laws.BytesString
import Derived.Lib.SlBytesConst
import Derived.Lib.Strings
namespace Go.Proofs.Ytgmcdkkjemjneaa.Sm
open Go.RowKit
set_option linter.unusedVariables false

/-- an Id's byte -/
theorem idx32 (ids : List Int) (h : ids.length = 32) (k : Nat) (hk : k < 32) (w : World) : (Instr.index 27 (.agg (bv ids).toArray) (.int .i64 k)).run Try.prog w = .ok (.int .u8 (ids.getD k 0)) w := by
  have hin : (0 : Int) ≤ (k : Int) ∧ (k : Int) < ((32 : Nat) : Int) := by omega
  obtain ⟨i, hi⟩ := info_of_underlying (P := Try.prog) Try.underlying5
  have hc : Try.prog.cellsOf 5 = 1 := by kernel_rfl
  have hg : (bv ids)[k]? = some (.int .u8 (ids.getD k 0)) := by simp [bv, h, hk]
  simp [Instr.index, run_underlying Try.underlying27, asIntOf, hin, go_sem, run_sizeOf w hi, hc]
  rw [if_pos hk, hg]
  simp

/-- a digit's letter -/
def hexd (d : Int) : Int := if d < 10 then 48 + d else 87 + d
theorem digit_at (d : Int) (h0 : 0 ≤ d) (h1 : d < 16) (w : World) : (Instr.index 9 (.string ⟨#[48, 49, 50, 51, 52, 53, 54, 55, 56, 57, 97, 98, 99, 100, 101, 102]⟩) (.int .u8 d)).run Try.prog w = .ok (.int .u8 (hexd d)) w := by
  rcases (show d = 0 ∨ d = 1 ∨ d = 2 ∨ d = 3 ∨ d = 4 ∨ d = 5 ∨ d = 6 ∨ d = 7 ∨ d = 8 ∨ d = 9 ∨ d = 10 ∨ d = 11 ∨ d = 12 ∨ d = 13 ∨ d = 14 ∨ d = 15 from by omega) with rfl | rfl | rfl | rfl | rfl | rfl | rfl | rfl | rfl | rfl | rfl | rfl | rfl | rfl | rfl | rfl <;> rfl
set_option maxRecDepth 100000 in
theorem and15 (b : Int) (h0 : 0 ≤ b) (h1 : b ≤ 255) : bits .and .u8 b 15 = b % 16 := by
  have h : ∀ n : Fin 256, bits .and .u8 (n.val : Int) 15 = (n.val : Int) % 16 := by decide
  have := h ⟨b.toNat, by omega⟩
  simpa [show ((b.toNat : Nat) : Int) = b by omega] using this

def hexAt (ids : List Int) (j : Nat) : Int := if j % 2 = 0 then hexd (ids.getD (j / 2) 0 / 16) else hexd (ids.getD (j / 2) 0 % 16)
def hexL (ids : List Int) : List Int := (List.range 64).map (hexAt ids)

/-- bytes as text -/
def sb (l : List Int) : ByteArray := l.foldl (fun r n => r.push (UInt8.ofNat n.toNat)) ByteArray.empty

theorem conv_cells (w : World) (a : Addr) (l : List Int) (cap n : Nat) (hn : l.length = n) (h : ∀ j u, (bv l)[j]? = some u → w.cell? (a.add j) = some u) :
    (convert 24 9 (.slice (some a) n cap)).run Try.prog w = .ok (.string (sb l)) w := by
  rw [run_convert_bytes_string w _ _ 5 (some a) n cap Try.underlying24 Try.underlying5 Try.underlying9]
  have hl := run_loadCells_list (P := Try.prog) w a (bv l) h
  have e : (bv l).length = n := by simp [bv, hn]
  rw [e] at hl
  exact run_bytesToString w a n cap l hl

set_option maxRecDepth 100000 in
theorem zero64 (w : World) : (zeroValue 54).run Try.prog w = .ok (.agg (bv (List.replicate 64 0)).toArray) w := by rfl

theorem row_rangeL {w : World} {b : Nat} {t : TypeId} (l : List Value) (h : w.rowIs b t l.length (fun i => l.getD i undef)) : w.rangeAt b 0 l := by
  intro j v hj
  have hl := (List.getElem?_eq_some_iff.1 hj).1
  rw [Nat.zero_add, h.cell hl]
  simp [List.getD, hj]

set_option maxRecDepth 100000 in
set_option maxHeartbeats 2000000 in
theorem hex_any (ids : List Int) (hids : ids.length = 32) (hr : ∀ i, i < 32 → 0 ≤ ids.getD i 0 ∧ ids.getD i 0 ≤ 255) (w : World) :
    Calls Try.prog 17 #[.agg (bv ids).toArray] w fun e w' => e = .returned (.string (sb (hexL ids))) ∧ Below w.heap.size w w' := by
  have hz := zero64
  generalize hZ : (bv (List.replicate 64 0)).toArray = Z at *
  have HZ := Lib.hid hZ
  clear hZ
  have hcl : (Value.agg (bv ids).toArray).cells = (bv ids).toArray := rfl
  have hbl : (bv ids).length = 32 := by rw [bv, List.length_map, hids]
  have HSz : Hid ((Try.prog.info? 27).map (·.size) = some (bv ids).length) := Lib.hid (by rw [hbl]; kernel_rfl)
  have HIx := Lib.hid (fun k hk w => idx32 ids hids k hk w)
  have HRg := Lib.hid (row_rangeL (bv ids) (row_new_list w (bv ids) 27))
  have HH := Lib.hid hr
  clear hr
  generalize bv ids = I at *
  clear hbl
  go_enter Try.func17, Try.ntmps17
  go_upto_region 1 with (fail)
  have HB1 := Lib.hid ((Below.refl w.heap.size w).alloc (Nat.le_refl _) (.cells I.toArray 27))
  have hs1 := al_lt w (.cells I.toArray 27)
  generalize w.alloc (.cells I.toArray 27) = w1 at *
  go_upto_region 2 with (fail)
  have HQ0 : Hid ((w1.alloc (.cells Z 54)).rowIs w1.heap.size 54 64 (fun _ => .int .u8 0)) := Lib.hid (by rw [← HZ.out]; exact row_zeros w1 64 _)
  have HB2 := Lib.hid (HB1.out.alloc (by omega) (.cells Z 54))
  have HRg2 := Lib.hid (World.rangeAt_alloc HRg.out (.cells Z 54))
  clear HRg HB1 hz HZ
  generalize w1.alloc (.cells Z 54) = w2 at *
  have hQw : Hid (w.heap.size ≤ w1.heap.size) := Lib.hid (by omega)
  generalize w1.heap.size = Q at *
  go_wp2_with (refine wpList_load_mid rfl _ _ rfl w.heap.size 0 rfl I _ HRg2.out Try.underlying27 rfl HSz.out ?_)
  have HG0 : Hid (∀ j, j < 2 * 0 → (fun _ => Value.int .u8 0 : Nat → Value) j = .int .u8 (hexAt ids j)) := Lib.hid (fun j hj => absurd hj (by omega))
  clear HRg2 HSz
  go_loopw [7] (fun i wr => ∃ (k : Nat) (G : Nat → Value), i = .int .i64 k ∧ k ≤ 32 ∧ Hid (wr.rowIs Q 54 64 G) ∧ Hid (∀ j, j < 2 * k → G j = .int .u8 (hexAt ids j)) ∧ Hid (Below w.heap.size w wr)) (fun i _ => 32 - (intOf i).toNat)
  case atStart => exact ⟨0, _, rfl, by omega, HQ0, HG0, HB2⟩
  case round =>
    clear HQ0 HG0 HB2
    obtain ⟨k, G, rfl, hk, HQ, HG, HB⟩ := hrel
    by_cases hlt : k < 32
    · have hidx := HIx.out k hlt
      obtain ⟨x0, x1⟩ := HH.out k hlt
      have HX : Hid (hexAt ids (2 * k) = hexd (ids.getD k 0 / 16) ∧ hexAt ids (2 * k + 1) = hexd (ids.getD k 0 % 16)) := Lib.hid ⟨by rw [hexAt, if_pos (by omega), show 2 * k / 2 = k by omega], by rw [hexAt, if_neg (by omega), show (2 * k + 1) / 2 = k by omega]⟩
      generalize ids.getD k 0 = X at *
      have hd1 := digit_at (X / 16) (by omega) (by omega)
      have hd2 := digit_at (X % 16) (by omega) (by omega)
      have ha := and15 X x0 x1
      obtain ⟨p, hp⟩ : ∃ p, p = 2 * k := ⟨_, rfl⟩
      have ip : 2 * (k : Int) = (p : Int) := by omega
      have wp : IntKind.i64.wrap (p : Int) = (p : Int) := by simp [IntKind.wrap, IntKind.signed, IntKind.bits]; omega
      have wp1 : IntKind.i64.wrap ((p : Int) + 1) = ((p + 1 : Nat) : Int) := by simp [IntKind.wrap, IntKind.signed, IntKind.bits]; omega
      have p0 : (0 : Int) ≤ (p : Int) := by omega
      have p1 : (p : Int) < 64 := by omega
      have p2 : (p : Int) + 1 < 64 := by omega
      have k0 : (0 : Int) ≤ (k : Int) := by omega
      have c0 : wr.cell? ⟨Q, p, none⟩ = some (G p) := HQ.out.cell (by omega)
      have c1 : (wr.setCell ⟨Q, p, none⟩ (.int .u8 (hexd (X / 16)))).cell? ⟨Q, p + 1, none⟩ = some (G (p + 1)) := by
        rw [World.cell?_setCell_other _ _ _ _ (by simp)]; exact HQ.out.cell (by omega)
      have f0 : ∀ j, wr.frozen? ⟨Q, j, none⟩ = false := fun j => HQ.out.frozen j
      rw [← hp] at HX
      have HQ2 := Lib.hid (row_lay HQ.out p [.int .u8 (hexd (X / 16)), .int .u8 (hexd (X % 16))])
      have HG2 : Hid (∀ j, j < 2 * (k + 1) → layF G p [.int .u8 (hexd (X / 16)), .int .u8 (hexd (X % 16))] j = .int .u8 (hexAt ids j)) := Lib.hid (fun j hj => by
        show (if p ≤ j ∧ j < p + 2 then [Value.int .u8 (hexd (X / 16)), .int .u8 (hexd (X % 16))].getD (j - p) undef else G j) = _
        by_cases h : p ≤ j ∧ j < p + 2
        · rw [if_pos h]
          rcases (show j = p ∨ j = p + 1 by omega) with rfl | rfl
          · rw [HX.out.1, Nat.sub_self]; rfl
          · rw [HX.out.2, show p + 1 - p = 1 by omega]; rfl
        · rw [if_neg h]
          exact HG.out j (by omega))
      have HB2 : Hid (Below w.heap.size w (wr.setCells Q p [.int .u8 (hexd (X / 16)), .int .u8 (hexd (X % 16))])) := Lib.hid (below_setCells Q hQw.out _ p wr HB.out)
      have HE : Hid (wr.setCells Q p [.int .u8 (hexd (X / 16)), .int .u8 (hexd (X % 16))] = (wr.setCell ⟨Q, p, none⟩ (.int .u8 (hexd (X / 16)))).setCell ⟨Q, p + 1, none⟩ (.int .u8 (hexd (X % 16)))) := Lib.hid rfl
      rw [HE.out] at HQ2 HB2
      clear HE HQ HG HB HX hp
      generalize hexd (X / 16) = Y1 at *
      generalize hexd (X % 16) = Y2 at *
      go_wp2_with fail
      go_roundw
      case rel => exact ⟨k + 1, _, by go_num, by omega, HQ2, HG2, HB2⟩
      case measure => simp [intOf]; omega
    · have hk2 : k = 32 := by omega
      have hL : (hexL ids).length = 64 := by simp [hexL]
      have hcv : (convert 24 9 (.slice (some ⟨Q, 0, none⟩) 64 64)).run Try.prog wr = .ok (.string (sb (hexL ids))) wr := conv_cells wr ⟨Q, 0, none⟩ (hexL ids) 64 64 hL (fun j u hj => by
        have hl := (List.getElem?_eq_some_iff.1 hj).1
        rw [bv, List.length_map, hL] at hl
        rw [Addr.add_mid, Nat.zero_add, HQ.out.cell hl, HG.out j (by omega), ← hj]
        simp [bv, hexL, hl])
      have hkd : decide ((k : Int) < 32) = false := by simp; omega
      clear hk2 hL
      generalize hT : sb (hexL ids) = T at *
      have HT := Lib.hid hT
      clear hT
      go_wp2_with fail
      go_ret
      exact ⟨by rw [HT.out]; rfl, HB.out⟩
end Go.Proofs.Ytgmcdkkjemjneaa.Sm
