/- The reader: numbers and Ids. -/
import Derived.Test.YtmcmapgllaopmaaCdTake
namespace Go.Proofs.Ytmcmapgllaopmaa.Cd
open Go.RowKit
set_option linter.unusedVariables false

/-- a number out of bytes -/
def nv (l : List Int) : Int := l.foldl (fun x c => x * 256 + c) 0
theorem nv_snoc (l : List Int) (c : Int) : nv (l ++ [c]) = nv l * 256 + c := by simp [nv]
theorem nv_bound : ∀ (k : Nat) (l : List Int), l.length ≤ k → (∀ i, i < l.length → 0 ≤ l.getD i 0 ∧ l.getD i 0 ≤ 255) → 0 ≤ nv l ∧ nv l < 256 ^ k := by
  intro k
  induction k with
  | zero =>
    intro l hl _
    obtain rfl : l = [] := List.eq_nil_of_length_eq_zero (by omega)
    simp [nv]
  | succ k ih =>
    intro l hl hb
    rcases List.eq_nil_or_concat l with rfl | ⟨m, c, rfl⟩
    · refine ⟨by simp [nv], ?_⟩
      show (0 : Int) < 256 ^ (k + 1)
      exact Int.pow_pos (by decide)
    · rw [List.concat_eq_append] at *
      have h1 := ih m (by simp at hl; omega) (fun i hi => by
        have := hb i (by simp; omega)
        simpa [List.getD, List.getElem?_append_left hi] using this)
      have h2 := hb m.length (by simp)
      have h3 : (m ++ [c]).getD m.length 0 = c := by simp [List.getD]
      rw [h3] at h2
      rw [nv_snoc, Int.pow_succ]
      omega
theorem bits_or_i64_nat (a b : Nat) (ha : a < 2 ^ 62) (hb : b < 2 ^ 62) : bits .or .i64 (a : Int) (b : Int) = ((a ||| b : Nat) : Int) := by
  have hx : a ||| b < 2 ^ 62 := Nat.or_lt_two_pow ha hb
  have h1 : (BitVec.ofInt 64 (a : Int)).toNat = a := by
    rw [BitVec.ofInt_natCast, BitVec.toNat_ofNat]; exact Nat.mod_eq_of_lt (by omega)
  have h2 : (BitVec.ofInt 64 (b : Int)).toNat = b := by
    rw [BitVec.ofInt_natCast, BitVec.toNat_ofNat]; exact Nat.mod_eq_of_lt (by omega)
  show IntKind.i64.wrap ((BitVec.ofInt 64 (a : Int) ||| BitVec.ofInt 64 (b : Int)).toNat : Int) = _
  rw [BitVec.toNat_or, h1, h2]
  exact IntWalk.i64_in _ (by omega)
theorem or_low (x c : Int) (h0 : 0 ≤ x) (h1 : x < 16777216) (h2 : 0 ≤ c) (h3 : c ≤ 255) : bits .or .i64 (x * 256) c = x * 256 + c := by
  obtain ⟨a, rfl⟩ : ∃ a : Nat, x = a := ⟨x.toNat, by omega⟩
  obtain ⟨b, rfl⟩ : ∃ b : Nat, c = b := ⟨c.toNat, by omega⟩
  have e : ((a : Int) * 256) = ((a * 256 : Nat) : Int) := by simp
  rw [e, bits_or_i64_nat _ _ (by omega) (by omega)]
  have h := Nat.shiftLeft_add_eq_or_of_lt (show b < 2 ^ 8 by omega) a
  rw [Nat.shiftLeft_eq] at h
  have h2 : a * 256 ||| b = a * 256 + b := h.symm
  rw [h2]
  simp

/-- a reader's answer v, and the reader behind -/
def NumRet (R N : Nat) (t : TypeId) (A : Option Addr) (L C : Nat) (l : List Int) (at' : Nat) (f : Int) (E : Nat → Value) (n : Nat) (v : Value) (w : World) (e : Ending) (w' : World) : Prop :=
  e = .returned v ∧ Rdr w' R N t A L C l (tkA f at' L n) (tkF f at' L n) E ∧ w.grownBy w' (some R)

theorem nv_small (l : List Int) (k : Nat) (hk : k < 4) (hl : l.length ≤ k) (hb : ∀ i, i < l.length → 0 ≤ l.getD i 0 ∧ l.getD i 0 ≤ 255) : 0 ≤ nv l ∧ nv l < 16777216 := by
  have h := nv_bound 3 l (by omega) hb
  exact h
theorem take_getD (l : List Int) (k i : Nat) (h : i < k) : (l.take k).getD i 0 = l.getD i 0 := by simp [List.getD, h]
theorem nv_step (l : List Int) (k : Nat) (h : k < l.length) : nv (l.take (k + 1)) = nv (l.take k) * 256 + l.getD k 0 := by
  rw [List.take_succ_eq_append_getElem h, nv_snoc]
  simp [List.getD, h]

set_option maxHeartbeats 1000000 in
theorem number_r (R N : Nat) (t : TypeId) (A : Option Addr) (L C : Nat) (l : List Int) (at' : Nat) (f : Int) (E : Nat → Value) (n : Nat) (w : World) (h : Rdr w R N t A L C l at' f E) (hn : n ≤ 4) :
    Calls Try.prog 62 #[.pointer (some ⟨R, 0, none⟩), .int .i64 n] w (NumRet R N t A L C l at' f E n (.int .i64 (nv (tkL f l at' L n))) w) := by
  have HT := Lib.hid (take_any R N t A L C l at' f E n w h (by omega))
  have hlen : (tkL f l at' L n).length ≤ 4 := by
    unfold tkL
    split
    · rw [List.length_take]; omega
    · simp
  clear h
  generalize hT : tkL f l at' L n = T at *
  go_enter Try.func62, Try.ntmps62
  go_wp2_with fail
  refine HT.out.mono ?_
  rintro e w1 ⟨A', C', rfl, hrd, hne, hR, hg⟩
  rw [hT] at hrd hne ⊢
  have HRd := Lib.hid hrd
  have HR := Lib.hid hR
  have HG := Lib.hid hg
  have hcap := hrd.cap
  have hmax := hrd.max
  clear hrd hne hR hg HT hT
  go_wp2_with fail
  go_loop [5, 12] (fun s5 s12 => ∃ k : Nat, s5 = .int .i64 (nv (T.take k)) ∧ s12 = .int .i64 k ∧ k ≤ T.length) (fun _ s12 => T.length - (intOf s12).toNat)
  case atStart => exact ⟨0, rfl, rfl, Nat.zero_le _⟩
  case round =>
    obtain ⟨k, rfl, rfl, hk⟩ := hrel
    by_cases hlt : k < T.length
    · obtain ⟨g, o, rfl, hgl, hcc⟩ := HRd.out.at (by omega)
      have hc : w1.cell? ⟨g, o + k, none⟩ = some (.int .u8 (T.getD k 0)) := hcc k hlt
      have hb := HRd.out.byte k hlt
      have hb0 := hb.1
      have hb1 := hb.2
      have hn3 := nv_small (T.take k) k (by omega) (by rw [List.length_take]; omega) (fun i hi => by
        rw [List.length_take] at hi
        rw [take_getD T k i (by omega)]
        exact HRd.out.byte i (by omega))
      have hx0 := hn3.1
      have hx1 := hn3.2
      have hor := or_low (nv (T.take k)) (T.getD k 0) hx0 hx1 hb0 hb1
      rw [← nv_step T k hlt] at hor
      have HX := Lib.hid (show nv (T.take (k + 1)) = nv (T.take (k + 1)) from rfl)
      have hk0 : (0 : Int) ≤ (k : Int) := by omega
      have hkl : (k : Int) < (T.length : Int) := by omega
      clear hcc hb hn3 HX
      generalize hY : nv (T.take (k + 1)) = Y at *
      have HY := Lib.hid hY
      clear hY
      generalize nv (T.take k) = X at *
      generalize T.getD k 0 = c at *
      go_wp2_with fail
      go_round
      case rel => exact ⟨k + 1, by rw [HY.out], by go_num, by omega⟩
      case measure => simp [intOf]; omega
    · have HX : Hid (nv (T.take k) = nv T) := Lib.hid (by rw [List.take_of_length_le (by omega)])
      have hd : decide ((k : Int) < (T.length : Int)) = false := by simp; omega
      generalize nv (T.take k) = X at *
      go_wp2_with fail
      go_ret
      exact ⟨ret_int HX.out, HR.out, HG.out⟩

set_option maxHeartbeats 1000000 in
theorem byte_r (R N : Nat) (t : TypeId) (A : Option Addr) (L C : Nat) (l : List Int) (at' : Nat) (f : Int) (E : Nat → Value) (w : World) (h : Rdr w R N t A L C l at' f E) :
    Calls Try.prog 61 #[.pointer (some ⟨R, 0, none⟩)] w (NumRet R N t A L C l at' f E 1 (.int .u8 (nv (tkL f l at' L 1))) w) := by
  have HT := Lib.hid (number_r R N t A L C l at' f E 1 w h (by omega))
  have hb : 0 ≤ nv (tkL f l at' L 1) ∧ nv (tkL f l at' L 1) ≤ 255 := by
    unfold tkL
    split
    · have h2 := nv_bound 1 ((l.drop at').take 1) (by rw [List.length_take]; omega) (fun i hi => by
        rw [List.length_take, List.length_drop] at hi
        rw [take_getD _ _ _ (by omega)]
        have := h.rd.byte (at' + i) (by have := h.rd.len; omega)
        simpa [List.getD] using this)
      have : (256 : Int) ^ 1 = 256 := by decide
      omega
    · exact ⟨by decide, by decide⟩
  obtain ⟨b0, b1⟩ := hb
  clear h
  generalize nv (tkL f l at' L 1) = X at *
  go_enter Try.func61, Try.ntmps61
  go_wp2_with fail
  refine HT.out.mono ?_
  rintro e w1 ⟨rfl, hR, hg⟩
  have HR := Lib.hid hR
  have HG := Lib.hid hg
  clear hR hg HT
  go_wp2_with fail
  go_ret
  exact ⟨rfl, HR.out, HG.out⟩
end Go.Proofs.Ytmcmapgllaopmaa.Cd
