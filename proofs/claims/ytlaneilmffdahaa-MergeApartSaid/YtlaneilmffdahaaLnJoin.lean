/- Join, the program's and the document's: the bytes of lines, one behind the other. -/
import Derived.Test.YtlaneilmffdahaaLnOpen
import Derived.Lib.AppendStr
namespace Go.Proofs.Ytlaneilmffdahaa.Ln
open Go.RowKit
set_option linter.unusedVariables false
def cells (ss : List ByteArray) : List Value := ss.flatMap Lib.strCells
def sz (ss : List ByteArray) : Nat := (ss.map ByteArray.size).sum
theorem sz_take (ss : List ByteArray) (k : Nat) (h : k < ss.length) : sz (ss.take (k + 1)) = sz (ss.take k) + (ss.getD k ByteArray.empty).size ∧ cells (ss.take (k + 1)) = cells (ss.take k) ++ Lib.strCells (ss.getD k ByteArray.empty) := by
  have e : ss.getD k ByteArray.empty = ss[k] := by simp [List.getD, h]
  rw [e, List.take_succ_eq_append_getElem h]
  exact ⟨by simp only [sz, List.map_append, List.sum_append, List.map_cons, List.map_nil, List.sum_cons, List.sum_nil, Nat.add_zero], by simp only [cells, List.flatMap_append, List.flatMap_cons, List.flatMap_nil, List.append_nil]⟩
theorem sz_take_le (ss : List ByteArray) (k : Nat) : sz (ss.take k) ≤ sz ss := by
  have : sz ss = sz (ss.take k) + sz (ss.drop k) := by
    conv => lhs; rw [← List.take_append_drop k ss]
    simp only [sz, List.map_append, List.sum_append]
  omega
theorem infoU : (Try.prog.info? 5).map (fun i => (i.zero, i.size, i.bytes)) = some (some (.int .u8 0), 1, 1) := by kernel_rfl
def JoinRet (ss : List ByteArray) (w : World) (e : Ending) (w' : World) : Prop :=
  ∃ v, e = .returned v ∧ w'.ownsRow w.heap.size 5 1 v (sz ss) (cells ss) ∧ Below w.heap.size w w'
theorem own_none_u (w : World) (B : Nat) : w.ownsRow B 5 1 (.slice none 0 0) 0 (cells []) := ⟨rfl, Or.inl ⟨rfl, rfl⟩⟩
theorem join_any (A : Option Addr) (n C : Nat) (ss : List ByteArray) (w : World) (h : Rd w w.heap.size A n C (sv ss)) (hs : sz ss ≤ 140737488355328) :
    Calls Try.prog 37 #[.slice A n C] w (JoinRet ss w) := by
  have hl : ss.length = n := by have := h.hlen; simpa [sv] using this
  have hn := h.hbig
  have H := Lib.hid h
  obtain ⟨i0, hi, hz0, hz1, hz2⟩ := info_parts infoU
  have hmx : (140737488355328 : Nat) ≤ maxLen := by unfold maxLen; omega
  clear h
  go_enter Try.func37, Try.ntmps37
  go_wp2
  go_loopw [3, 8] (fun s3 s8 wx => ∃ (v : Value) (k : Nat), s3 = v ∧ s8 = .int .i64 k ∧ k ≤ n ∧ Hid (wx.ownsRow w.heap.size 5 1 v (sz (ss.take k)) (cells (ss.take k))) ∧ Hid (Below w.heap.size w wx)) (fun _ s8 _ => n - (intOf s8).toNat)
  case atStart => exact ⟨_, 0, rfl, rfl, Nat.zero_le _, Lib.hid (own_none_u _ _), Lib.hid (Below.refl _ _)⟩
  case round =>
    obtain ⟨v, k, rfl, rfl, hk, HO, HB⟩ := hrel
    by_cases hlt : k < n
    · obtain ⟨x1, o1, rfl, hb1, hc1⟩ := (H.out.below HB.out).str k hlt
      obtain ⟨e1, e2⟩ := sz_take ss k (by omega)
      have hle := sz_take_le ss (k + 1)
      generalize ss.getD k ByteArray.empty = s at *
      go_wp2_with (at_builtin; refine Lib.wpList_append_own_string _ rfl _ _ _ _ rfl w.heap.size 5 i0 Try.underlying32 Try.underlying9 hi hz0 hz1 hz2 _ _ _ rfl HO.out s rfl (by omega) (by omega) HB.out.size ?_)
      intro v' w' ho hg hv
      have HB' := Lib.hid (HB.out.trans (below_grown HB.out.size HO.out hg))
      rw [← e1, ← e2] at ho
      have HO' := Lib.hid ho
      clear ho hg hv HO HB e1 e2
      go_wp2
      go_roundw
      case rel => exact ⟨_, k + 1, rfl, by go_num, by omega, HO', HB'⟩
      case measure => simp [intOf]; omega
    · have e : k = n := by omega
      go_wp2
      go_ret
      refine ⟨_, rfl, ?_, HB.out⟩
      have := HO.out
      rw [e, ← hl, List.take_length] at this
      exact this
theorem rjoin_any (A : Option Addr) (n C : Nat) (ss : List ByteArray) (w : World) (h : Rd w w.heap.size A n C (sv ss)) (hs : sz ss ≤ 140737488355328) :
    Calls Try.prog 24 #[.slice A n C] w (JoinRet ss w) := by
  have hl : ss.length = n := by have := h.hlen; simpa [sv] using this
  have hn := h.hbig
  have H := Lib.hid h
  obtain ⟨i0, hi, hz0, hz1, hz2⟩ := info_parts infoU
  have hmx : (140737488355328 : Nat) ≤ maxLen := by unfold maxLen; omega
  clear h
  go_enter Try.func24, Try.ntmps24
  go_wp2
  go_loopw [3, 4] (fun s3 s8 wx => ∃ (v : Value) (k : Nat), s3 = v ∧ s8 = .int .i64 k ∧ k ≤ n ∧ Hid (wx.ownsRow w.heap.size 5 1 v (sz (ss.take k)) (cells (ss.take k))) ∧ Hid (Below w.heap.size w wx)) (fun _ s8 _ => n - (intOf s8).toNat)
  case atStart => exact ⟨_, 0, rfl, rfl, Nat.zero_le _, Lib.hid (own_none_u _ _), Lib.hid (Below.refl _ _)⟩
  case round =>
    obtain ⟨v, k, rfl, rfl, hk, HO, HB⟩ := hrel
    by_cases hlt : k < n
    · obtain ⟨x1, o1, rfl, hb1, hc1⟩ := (H.out.below HB.out).str k hlt
      obtain ⟨e1, e2⟩ := sz_take ss k (by omega)
      have hle := sz_take_le ss (k + 1)
      generalize ss.getD k ByteArray.empty = s at *
      go_wp2_with (at_builtin; refine Lib.wpList_append_own_string _ rfl _ _ _ _ rfl w.heap.size 5 i0 Try.underlying32 Try.underlying9 hi hz0 hz1 hz2 _ _ _ rfl HO.out s rfl (by omega) (by omega) HB.out.size ?_)
      intro v' w' ho hg hv
      have HB' := Lib.hid (HB.out.trans (below_grown HB.out.size HO.out hg))
      rw [← e1, ← e2] at ho
      have HO' := Lib.hid ho
      clear ho hg hv HO HB e1 e2
      go_wp2
      go_roundw
      case rel => exact ⟨_, k + 1, rfl, by go_num, by omega, HO', HB'⟩
      case measure => simp [intOf]; omega
    · have e : k = n := by omega
      go_wp2
      go_ret
      refine ⟨_, rfl, ?_, HB.out⟩
      have := HO.out
      rw [e, ← hl, List.take_length] at this
      exact this
end Go.Proofs.Ytlaneilmffdahaa.Ln
