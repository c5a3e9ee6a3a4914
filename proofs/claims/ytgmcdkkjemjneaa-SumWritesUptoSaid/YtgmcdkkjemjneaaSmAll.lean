/- Rows of bytes that came in; all of them, one behind the other. -/
import Derived.Test.YtgmcdkkjemjneaaSmLaw
import Derived.Lib.SlBytesConst
import Derived.Lib.BufferRead
namespace Go.Proofs.Ytgmcdkkjemjneaa.Sm
open Go.RowKit
set_option linter.unusedVariables false

theorem conv_rd {w : World} {A : Option Addr} {n C : Nat} {l : List Int} (h : RdB w A n C l) : (convert 24 9 (.slice A n C)).run Try.prog w = .ok (.string (sb l)) w := by
  cases A with
  | none =>
    have hc := h.none rfl
    have hn : n = 0 := by have := h.cap; omega
    subst hn
    obtain rfl : l = [] := List.eq_nil_of_length_eq_zero h.len
    exact Lib.run_convert_nil_bytes w _ _ 5 C Try.underlying24 Try.underlying5 Try.underlying9
  | some a =>
    obtain ⟨h1, h2⟩ := h.cell a rfl
    have hl := h.len
    refine conv_cells w a l C n h.len ?_
    intro j u hj
    obtain ⟨hj1, hj2⟩ := List.getElem?_eq_some_iff.1 hj
    rw [bv, List.length_map] at hj1
    rw [h2 j (by omega), ← hj]
    simp [bv, hj1]

/-- rows of bytes that are read -/
structure RdR (w : World) (a : Option Addr) (len cap : Nat) (b off : Nat) (A : Nat → Option Addr) (L C : Nat → Nat) (lf : Nat → List Int) : Prop where
  hcap : len ≤ cap
  hmax : cap ≤ 9223372036854775807
  hA : 0 < len → a = some ⟨b, off, none⟩
  hb : 0 < len → b < w.heap.size
  cell : ∀ i, i < len → w.cell? ⟨b, off + i, none⟩ = some (.slice (A i) (L i) (C i))
  row : ∀ i, i < len → RdB w (A i) (L i) (C i) (lf i)
theorem RdR.below {w w' : World} {a : Option Addr} {len cap b off : Nat} {A : Nat → Option Addr} {L C : Nat → Nat} {lf : Nat → List Int} (h : RdR w a len cap b off A L C lf) (hb : Below w.heap.size w w') : RdR w' a len cap b off A L C lf :=
  ⟨h.hcap, h.hmax, h.hA, fun h0 => Nat.lt_of_lt_of_le (h.hb h0) hb.size, fun i hi => by
    rw [hb.cell (p := ⟨b, off + i, none⟩) (h.hb (by omega))]; exact h.cell i hi, fun i hi => (h.row i hi).below hb⟩
theorem rdr_of {w : World} {a : Option Addr} {len cap : Nat} {rs : List (List Int)} (h : Fr.IsRows w a len cap rs) : ∃ b off A L C, RdR w a len cap b off A L C (fun i => rs.getD i []) ∧ rs.length = len := by
  rcases h with ⟨rfl, rfl, rfl, rfl⟩ | ⟨x, A, L, C, rfl, hl, hm, hz, hc⟩
  · exact ⟨0, 0, fun _ => none, fun _ => 0, fun _ => 0, ⟨Nat.le_refl _, by omega, fun h => absurd h (by omega), fun h => absurd h (by omega), fun i hi => absurd hi (by omega), fun i hi => absurd hi (by omega)⟩, rfl⟩
  · obtain ⟨b, off, spot⟩ := x
    refine ⟨b, off, A, L, C, ⟨hl, by omega, fun h0 => ?_, fun h0 => ?_, fun i hi => ?_, fun i hi => rd_of_ints (hc i hi).2⟩, hz⟩
    · have hspot : spot = none := by simpa [Addr.add] using World.cell?_spot ((hc 0 (by omega)).1)
      rw [hspot]
    · simpa [Addr.add] using block_lt_of_cell ((hc 0 h0).1)
    · have hspot : spot = none := by simpa [Addr.add] using World.cell?_spot ((hc 0 (by omega)).1)
      have h := (hc i hi).1
      rw [hspot] at h
      rw [← h]
      congr 1
      simp [Addr.add]

theorem rowsTo_mono (lf : Nat → List Int) : ∀ k n, k ≤ n → (rowsTo lf k).length ≤ (rowsTo lf n).length := by
  intro k n h
  induction n with
  | zero => rw [show k = 0 by omega]; exact Nat.le_refl _
  | succ n ih =>
    by_cases e : k = n + 1
    · rw [e]; exact Nat.le_refl _
    · have := ih (by omega)
      rw [rowsTo_succ, List.length_append]; omega
theorem rowsTo_len (rs : List (List Int)) : (rowsTo (fun i => rs.getD i []) rs.length).length = (rs.map List.length).sum := by
  have : ∀ k, k ≤ rs.length → (rowsTo (fun i => rs.getD i []) k).length = ((rs.take k).map List.length).sum := by
    intro k
    induction k with
    | zero => intro _; simp [rowsTo]
    | succ k ih =>
      intro hk
      rw [rowsTo_succ, List.length_append, ih (by omega), List.take_succ_eq_append_getElem (by omega)]
      simp only [List.map_append, List.map_cons, List.map_nil, List.sum_append, List.sum_cons, List.sum_nil, Nat.add_zero]
      congr 1
      simp [List.getD, show k < rs.length by omega]
  rw [this _ (Nat.le_refl _), List.take_length]
theorem rowsTo_range (lf : Nat → List Int) (n : Nat) (h : ∀ i, i < n → ∀ j, j < (lf i).length → 0 ≤ (lf i).getD j 0 ∧ (lf i).getD j 0 ≤ 255) : ∀ k, k ≤ n → ∀ j, j < (rowsTo lf k).length → 0 ≤ (rowsTo lf k).getD j 0 ∧ (rowsTo lf k).getD j 0 ≤ 255 := by
  intro k
  induction k with
  | zero => intro _ j hj; simp [rowsTo] at hj
  | succ k ih =>
    intro hk
    rw [rowsTo_succ]
    exact getD_append_range _ _ (ih (by omega)) (h k (by omega))

theorem own_keep {w w' : World} {B e sz n : Nat} {v : Value} {xs : List Value} (h : w.ownsRow B e sz v n xs) (hb : Below w.heap.size w w') : w'.ownsRow B e sz v n xs := by
  refine ⟨h.1, ?_⟩
  rcases h.2 with h2 | ⟨g, cap, cur, hv, hB, hh, r⟩
  · exact .inl h2
  · exact .inr ⟨g, cap, cur, hv, hB, (hb.block g (by
      rcases Nat.lt_or_ge g w.heap.size with h3 | h3
      · exact h3
      · rw [Array.getElem?_eq_none h3] at hh; simp at hh)).trans hh, r⟩

set_option maxHeartbeats 1000000 in
theorem all_any (a : Option Addr) (len cap b off : Nat) (A : Nat → Option Addr) (L C : Nat → Nat) (lf : Nat → List Int) (w : World) (h : RdR w a len cap b off A L C lf) (hlen : len ≤ 1048576) (T : Nat) (hT : (rowsTo lf len).length = T) (hT2 : T ≤ 1048576) :
    Calls Try.prog 8 #[.slice a len cap] w (OwnRet w.heap.size T (bv (rowsTo lf len)) w) := by
  have HR := Lib.hid h
  have hcap := h.hcap
  have hmax := h.hmax
  have HT := Lib.hid hT
  clear h hT
  have HO : Hid (w.ownsRow w.heap.size 5 1 (.slice none 0 0) (rowsTo lf 0).length (bv (rowsTo lf 0))) := Lib.hid ⟨rfl, .inl ⟨rfl, rfl⟩⟩
  have HB := Lib.hid (Below.refl w.heap.size w)
  go_enter Try.func8, Try.ntmps8
  go_wp2_with fail
  go_loopw [3, 4] (fun s3 s4 wr => ∃ (k m : Nat) (v : Value), s3 = v ∧ s4 = .int .i64 k ∧ k ≤ len ∧ Hid (m = (rowsTo lf k).length) ∧ Hid (wr.ownsRow w.heap.size 5 1 v m (bv (rowsTo lf k))) ∧ Hid (Below w.heap.size w wr)) (fun _ s4 _ => len - (intOf s4).toNat)
  case atStart => exact ⟨0, _, _, rfl, rfl, Nat.zero_le _, Lib.hid rfl, HO, HB⟩
  case round =>
    clear HO HB
    obtain ⟨k, m, v, rfl, rfl, hk, HM, HO, HB⟩ := hrel
    by_cases hlt : k < len
    · have ha := HR.out.hA (by omega)
      subst ha
      have hRw := HR.out.below HB.out
      have hc := hRw.cell k hlt
      have HRk := Lib.hid (hRw.row k hlt)
      have hl := HRk.out.len
      have hk0 : (0 : Int) ≤ (k : Int) := by omega
      have hkl : (k : Int) < (len : Int) := by omega
      have hm2 : m + L k = (rowsTo lf (k + 1)).length := by rw [rowsTo_succ, List.length_append, HM.out, hl]
      have hmt := rowsTo_mono lf (k + 1) len (by omega)
      have hmm : m + L k ≤ 1048576 := by have := HT.out; omega
      have HM2 := Lib.hid hm2
      have hsz := HB.out.size
      clear hRw hl hm2 hmt
      go_wp2_with (at_builtin; refine wpList_append_rd _ rfl (.tmp 11) (.tmp 15) rfl w.heap.size _ m (rowsTo lf k) rfl HO.out (A k) (L k) (C k) (lf k) rfl HRk.out (by omega) hsz ?_)
      intro A' C' w' ho hb
      rw [← rowsTo_succ] at ho
      have HO2 := Lib.hid ho
      have HB2 := Lib.hid (HB.out.trans hb)
      clear ho hb HO HB HRk hc
      go_wp2_with fail
      go_roundw
      case rel => exact ⟨k + 1, m + L k, _, rfl, by go_num, by omega, HM2, HO2, HB2⟩
      case measure => simp [intOf]; omega
    · have e : k = len := by omega
      subst e
      have HO2 := Lib.hid (own_eq (m := T) HO.out rfl (by rw [HM.out, HT.out]))
      clear HO HM HT
      go_wp2_with fail
      go_ret
      exact ⟨_, rfl, HO2.out, HB.out⟩
end Go.Proofs.Ytgmcdkkjemjneaa.Sm
