/- known of chapter 4. -/
import Derived.Test.YtmcmapgllaopmaaCdTree
import Derived.Laws.BytesString
import Derived.Lib.SlBytesConst
namespace Go.Proofs.Ytmcmapgllaopmaa.Cd
open Go.RowKit
set_option linter.unusedVariables false

/-- bytes as text -/
def sb (l : List Int) : ByteArray := l.foldl (fun r n => r.push (UInt8.ofNat n.toNat)) ByteArray.empty

theorem conv_cells (w : World) (a : Addr) (l : List Int) (cap n : Nat) (hn : l.length = n) (h : ∀ j u, (bv l)[j]? = some u → w.cell? (a.add j) = some u) :
    (convert 23 9 (.slice (some a) n cap)).run Try.prog w = .ok (.string (sb l)) w := by
  rw [run_convert_bytes_string w _ _ 5 (some a) n cap Try.underlying23 Try.underlying5 Try.underlying9]
  have hl := run_loadCells_list (P := Try.prog) w a (bv l) h
  have e : (bv l).length = n := by simp [bv, hn]
  rw [e] at hl
  exact run_bytesToString w a n cap l hl

/-- the first m bytes of a row of one's own, as text -/
theorem conv_own {w : World} {B g n C : Nat} {l : List Int} (h : w.ownsRow B 5 1 (.slice (some ⟨g, 0, none⟩) n C) n (bv l)) (m : Nat) (hm : m ≤ n) :
    (convert 23 9 (.slice (some ⟨g, 0, none⟩) m C)).run Try.prog w = .ok (.string (sb (l.take m))) w := by
  have hl : l.length = n := by have := h.1; simpa [bv] using this
  refine conv_cells w _ (l.take m) C m (by rw [List.length_take]; omega) ?_
  intro j u hj
  obtain ⟨hj1, hj2⟩ := List.getElem?_eq_some_iff.1 hj
  rw [bv, List.length_map, List.length_take] at hj1
  rw [show Addr.add ⟨g, 0, none⟩ j = (⟨g, j, none⟩ : Addr) from by simp [Addr.add]; omega, h.cellAt j (by omega), ← hj]
  simp [bv, show j < m by omega]

theorem own_keep {w w' : World} {B e sz n : Nat} {v : Value} {xs : List Value} (h : w.ownsRow B e sz v n xs) (hb : Below w.heap.size w w') : w'.ownsRow B e sz v n xs := by
  refine ⟨h.1, ?_⟩
  rcases h.2 with h2 | ⟨g, cap, cur, hv, hB, hh, r⟩
  · exact .inl h2
  · exact .inr ⟨g, cap, cur, hv, hB, (hb.block g (by
      rcases Nat.lt_or_ge g w.heap.size with h3 | h3
      · exact h3
      · rw [Array.getElem?_eq_none h3] at hh; simp at hh)).trans hh, r⟩

theorem q1 : ((sb [116, 0, 0, 0, 0]).toList == [116, 0, 0, 0, 0]) = true := by rw [Lib.toList_data]; decide
theorem q2 : ((sb [1, 1, 97, 7]).toList == [1, 1, 97, 7]) = true := by rw [Lib.toList_data]; decide

set_option maxRecDepth 100000 in
set_option maxHeartbeats 1000000 in
theorem known_any (w : World) : Calls Try.prog 11 #[] w fun e w' => e = .returned (.bool true) ∧ Below w.heap.size w w' := by
  have hq1 := q1
  have hq2 := q2
  go_enter Try.func11, Try.ntmps11
  go_wp2_with fail
  refine (encodeObj_tree_nil w).mono ?_
  rintro e w1 ⟨v1, rfl, ho1, hb1⟩
  have HO1 := Lib.hid ho1
  have HB1 := Lib.hid hb1
  have hsz1 := hb1.size
  clear ho1 hb1
  go_wp2_with fail
  refine (encodeTree_one w1.heap.size (7 :: List.replicate 31 0) (by decide) (by decide) _ (al_lt w1 _) (ent_range ⟨#[97]⟩ 1 (7 :: List.replicate 31 0) w1 87)).mono ?_
  rintro e w2 ⟨v2, rfl, ho2, hb2⟩
  have hb2' : Below w1.heap.size w1 w2 := al_below hb2
  have HB2 := Lib.hid (HB1.out.trans (hb2'.mono hsz1))
  have ho1 := own_keep HO1.out hb2'
  obtain ⟨g1, c1, rfl, hc1, hd1⟩ := own_open ho1 (by omega)
  obtain ⟨g2, c2, rfl, hc2, hd2⟩ := own_open ho2 (by omega)
  have hv1 := conv_own ho1 5 (by omega)
  have hv2 := conv_own ho2 4 (by omega)
  rw [show List.take 5 [116, 0, 0, 0, 0] = [(116 : Int), 0, 0, 0, 0] from rfl] at hv1
  rw [show List.take 4 (1 :: 1 :: 97 :: 7 :: List.replicate 31 0) = [(1 : Int), 1, 97, 7] from rfl] at hv2
  clear ho1 ho2 hb2 hb2' HO1
  go_wp2
  go_ret
  exact ⟨rfl, HB2.out⟩
end Go.Proofs.Ytmcmapgllaopmaa.Cd
