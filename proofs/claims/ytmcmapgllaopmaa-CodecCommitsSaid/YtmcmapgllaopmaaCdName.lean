/- codec.Name and the document's. -/
import Derived.Test.YtmcmapgllaopmaaCdKit
import Derived.Lib.Strings
import Derived.Lib.Bytealg
import Derived.Lib.IndexLaws
import Derived.Laws.Externs
namespace Go.Proofs.Ytmcmapgllaopmaa.Cd
open Go.RowKit
set_option linter.unusedVariables false

set_option maxRecDepth 100000 in
theorem sindex_any (s : ByteArray) (cv : Int) (w : World) :
    Calls Try.prog 81 #[.string s, .int .u8 cv] w fun e w' => e = .returned (.int .i64 (Lib.indexByte s.data.toList cv.toNat.toUInt8)) ∧ w' = w := by
  go_enter Try.func81, Try.ntmps81
  go_wp2
  rw [run_callFunc_extern Try.func106 (by kernel_rfl) (by kernel_rfl) (by kernel_rfl) (e := Extern.BytealgIndexByte.indexByte) (by kernel_rfl), Lib.run_indexByteString]
  simp only [Result.andThen]
  rw [Oper.upon_value]
  go_wp2
  go_ret
  exact ⟨rfl, rfl⟩

/-- may a text stand in a tree? -/
def NmOk (s : ByteArray) : Prop := s.toList ≠ [] ∧ (s.size : Int) ≤ 40 ∧ s.toList ≠ [46] ∧ s.toList ≠ [46, 46] ∧ (47 : UInt8) ∉ s.data.toList ∧ (0 : UInt8) ∉ s.data.toList
instance (s : ByteArray) : Decidable (NmOk s) := by unfold NmOk; infer_instance

theorem idx_mem (l : List UInt8) (c : UInt8) : Lib.indexByte l c < 0 ↔ c ∉ l := by
  constructor
  · intro h hm
    have h1 := Lib.indexByte_ge l c
    obtain ⟨k, hk, rfl⟩ := List.mem_iff_getElem.1 hm
    exact Lib.indexByte_none (show Lib.indexByte l l[k] = -1 by omega) k (List.getElem?_eq_getElem hk)
  · intro h
    by_cases h1 : Lib.indexByte l c < 0
    · exact h1
    · obtain ⟨o, ho⟩ := Int.eq_ofNat_of_zero_le (show 0 ≤ Lib.indexByte l c by omega)
      exact absurd (List.mem_of_getElem? (Lib.indexByte_some ho).1) h

set_option maxRecDepth 100000 in
theorem name_any (s : ByteArray) (w : World) (hs : s.size ≤ maxLen) :
    Calls Try.prog 35 #[.string s] w fun e w' => e = .returned (.bool (decide (NmOk s))) ∧ w' = w := by
  by_cases h1 : s.toList = []
  · have hn : decide (NmOk s) = false := decide_eq_false (fun h => h.1 h1)
    rw [hn]
    go_enter Try.func35, Try.ntmps35
    go_wp2_with fail
    go_ret
    exact ⟨rfl, rfl⟩
  by_cases h2 : (s.size : Int) ≤ 40
  rotate_left 1
  · have hn : decide (NmOk s) = false := decide_eq_false (fun h => h2 h.2.1)
    rw [hn]
    go_enter Try.func35, Try.ntmps35
    go_wp2_with fail
    go_ret
    exact ⟨rfl, rfl⟩
  by_cases h3 : s.toList = [46]
  · have hn : decide (NmOk s) = false := decide_eq_false (fun h => h.2.2.1 h3)
    rw [hn]
    go_enter Try.func35, Try.ntmps35
    go_wp2_with fail
    go_ret
    exact ⟨rfl, rfl⟩
  by_cases h4 : s.toList = [46, 46]
  · have hn : decide (NmOk s) = false := decide_eq_false (fun h => h.2.2.2.1 h4)
    rw [hn]
    go_enter Try.func35, Try.ntmps35
    go_wp2_with fail
    go_ret
    exact ⟨rfl, rfl⟩
  have e1 : s.toList.isEmpty = false := by simpa using h1
  have e2 : decide (40 < (s.size : Int)) = false := by simp; omega
  have e3 : (s.toList == [46]) = false := by simpa using h3
  have e4 : (s.toList == [46, 46]) = false := by simpa using h4
  by_cases h5 : Lib.indexByte s.data.toList (47 : Int).toNat.toUInt8 < 0
  rotate_left 1
  · have hn : decide (NmOk s) = false := decide_eq_false (fun h => h5 ((idx_mem _ _).2 h.2.2.2.2.1))
    have hd : decide (Lib.indexByte s.data.toList (47 : Int).toNat.toUInt8 < 0) = false := decide_eq_false h5
    rw [hn]
    clear hn h1 h2 h3 h4 h5
    generalize hX : Lib.indexByte s.data.toList (47 : Int).toNat.toUInt8 = X at *
    go_enter Try.func35, Try.ntmps35
    go_wp2_with fail
    refine (sindex_any s 47 w).mono ?_
    rintro e w1 ⟨rfl, rfl⟩
    rw [hX]
    go_wp2_with fail
    go_ret
    exact ⟨rfl, rfl⟩
  have hd : decide (Lib.indexByte s.data.toList (47 : Int).toNat.toUInt8 < 0) = true := decide_eq_true h5
  have hn : decide (NmOk s) = decide (Lib.indexByte s.data.toList (0 : Int).toNat.toUInt8 < 0) := by
    rw [decide_eq_decide]
    constructor
    · intro h
      exact (idx_mem _ _).2 h.2.2.2.2.2
    · intro h
      exact ⟨h1, h2, h3, h4, (idx_mem _ _).1 h5, (idx_mem _ _).1 h⟩
  rw [hn]
  clear hn h1 h2 h3 h4 h5
  generalize hX : Lib.indexByte s.data.toList (47 : Int).toNat.toUInt8 = X at *
  generalize hY : Lib.indexByte s.data.toList (0 : Int).toNat.toUInt8 = Y at *
  go_enter Try.func35, Try.ntmps35
  go_wp2_with fail
  refine (sindex_any s 47 w).mono ?_
  rintro e w1 ⟨rfl, rfl⟩
  rw [hX]
  go_wp2_with fail
  refine (sindex_any s 0 _).mono ?_
  rintro e w2 ⟨rfl, rfl⟩
  rw [hY]
  go_wp2_with fail
  go_ret
  exact ⟨rfl, rfl⟩

theorem noks_step (s : ByteArray) (k : Nat) (h : k < s.size) (P : ∀ x ∈ s.data.toList.take k, x ≠ 47 ∧ x ≠ 0) (h1 : ((s[k].toNat : Int) == 47) = false) (h2 : ((s[k].toNat : Int) == 0) = false) : ∀ x ∈ s.data.toList.take (k + 1), x ≠ 47 ∧ x ≠ 0 := by
  intro x hx
  have hk : k < s.data.toList.length := by simpa using h
  rw [List.take_succ_eq_append_getElem hk] at hx
  rcases List.mem_append.1 hx with hx | hx
  · exact P x hx
  · have e0 : x = s.data.toList[k] := by simpa using hx
    have e : x = s[k] := e0
    subst e
    constructor
    · intro e; rw [e] at h1; exact absurd h1 (by decide)
    · intro e; rw [e] at h2; exact absurd h2 (by decide)

set_option maxRecDepth 100000 in
theorem rname_any (s : ByteArray) (w : World) (hs : s.size ≤ maxLen) :
    Calls Try.prog 36 #[.string s] w fun e w' => e = .returned (.bool (decide (NmOk s))) ∧ w' = w := by
  have hlen : s.toList.length = s.size := by rw [Lib.toList_data]; simp
  by_cases h1 : s.toList = []
  · have hn : decide (NmOk s) = false := decide_eq_false (fun h => h.1 h1)
    have hz : s.size = 0 := by rw [← hlen, h1]; rfl
    have e1 : decide ((s.size : Int) < 1) = true := by simp [hz]
    rw [hn]
    clear hn h1 hz hlen
    go_enter Try.func36, Try.ntmps36
    go_wp2_with fail
    go_ret
    exact ⟨rfl, rfl⟩
  have e1 : decide ((s.size : Int) < 1) = false := by
    have : s.toList.length ≠ 0 := fun h => h1 (List.eq_nil_of_length_eq_zero h)
    simp; omega
  by_cases h2 : (s.size : Int) ≤ 40
  rotate_left 1
  · have hn : decide (NmOk s) = false := decide_eq_false (fun h => h2 h.2.1)
    have e2 : decide (40 < (s.size : Int)) = true := by simp; omega
    rw [hn]
    clear hn h1 h2 hlen
    go_enter Try.func36, Try.ntmps36
    go_wp2_with fail
    go_ret
    exact ⟨rfl, rfl⟩
  have e2 : decide (40 < (s.size : Int)) = false := by simp; omega
  by_cases h3 : s.toList = [46]
  · have hn : decide (NmOk s) = false := decide_eq_false (fun h => h.2.2.1 h3)
    have e3 : (s.toList == [46]) = true := by simpa using h3
    rw [hn]
    clear hn h1 h2 hlen h3
    go_enter Try.func36, Try.ntmps36
    go_wp2_with fail
    go_ret
    exact ⟨rfl, rfl⟩
  have e3 : (s.toList == [46]) = false := by simpa using h3
  by_cases h4 : s.toList = [46, 46]
  · have hn : decide (NmOk s) = false := decide_eq_false (fun h => h.2.2.2.1 h4)
    have e4 : (s.toList == [46, 46]) = true := by simpa using h4
    rw [hn]
    clear hn h1 h2 hlen h3 h4
    go_enter Try.func36, Try.ntmps36
    go_wp2_with fail
    go_ret
    exact ⟨rfl, rfl⟩
  have e4 : (s.toList == [46, 46]) = false := by simpa using h4
  have HN : Hid (∀ P : Prop, (P ↔ (47 : UInt8) ∉ s.data.toList ∧ (0 : UInt8) ∉ s.data.toList) → (NmOk s ↔ P)) := Lib.hid (fun P hP => by
    rw [hP]
    exact ⟨fun h => ⟨h.2.2.2.2.1, h.2.2.2.2.2⟩, fun h => ⟨h1, h2, h3, h4, h.1, h.2⟩⟩)
  have hbig : s.size ≤ 40 := by omega
  clear h1 h2 h3 h4 hlen
  go_enter Try.func36, Try.ntmps36
  go_wp2_with fail
  go_loop [3] (fun i => ∃ (k : Nat), k ≤ s.size ∧ i = .int .i64 k ∧ Hid (∀ x ∈ s.data.toList.take k, x ≠ 47 ∧ x ≠ 0)) (fun i => s.size - (intOf i).toNat)
  case atStart => exact ⟨0, Nat.zero_le _, rfl, Lib.hid (by simp)⟩
  case round =>
    obtain ⟨k, hk, rfl, HP⟩ := hrel
    by_cases hlt : k < s.size
    · have hm : s[k] ∈ s.data.toList := List.mem_of_getElem? (i := k) (by rw [List.getElem?_eq_getElem (by simpa using hlt)]; rfl)
      by_cases hx1 : s[k].toNat = 47
      · have hn : decide (NmOk s) = false := decide_eq_false (fun h => ((HN.out _ Iff.rfl).1 h).1 (by rw [show (47 : UInt8) = s[k] from (UInt8.toNat_inj.1 hx1).symm]; exact hm))
        have hd : ((s[k].toNat : Int) == 47) = true := by simp [hx1]
        have HD := Lib.hid (ret_bool hn)
        clear hn hm HP HN
        go_wp2_with fail
        go_ret
        exact ⟨HD.out.symm, rfl⟩
      have hd1 : ((s[k].toNat : Int) == 47) = false := by simp; omega
      by_cases hx2 : s[k].toNat = 0
      · have hn : decide (NmOk s) = false := decide_eq_false (fun h => ((HN.out _ Iff.rfl).1 h).2 (by rw [show (0 : UInt8) = s[k] from (UInt8.toNat_inj.1 hx2).symm]; exact hm))
        have hd : ((s[k].toNat : Int) == 0) = true := by simp [hx2]
        have HD := Lib.hid (ret_bool hn)
        clear hn hm HP HN
        go_wp2_with fail
        go_ret
        exact ⟨HD.out.symm, rfl⟩
      have hd2 : ((s[k].toNat : Int) == 0) = false := by simp; omega
      have HP2 := Lib.hid (noks_step s k hlt HP.out hd1 hd2)
      clear HP hm
      go_wp2_with fail
      go_round
      case rel => exact ⟨k + 1, by omega, by go_num, HP2⟩
      case measure => simp [intOf]; omega
    · have hk2 : k = s.size := by omega
      have hn : decide (NmOk s) = true := decide_eq_true ((HN.out _ Iff.rfl).2 (by
        have e : s.data.toList.take k = s.data.toList := List.take_of_length_le (by simp; omega)
        have h := HP.out
        rw [e] at h
        exact ⟨fun hm => (h _ hm).1 rfl, fun hm => (h _ hm).2 rfl⟩))
      have HD := Lib.hid (ret_bool hn)
      clear hn HP HN
      have hd : decide (k < s.size) = false := by simp; omega
      go_wp2_with fail
      go_ret
      exact ⟨HD.out.symm, rfl⟩

end Go.Proofs.Ytmcmapgllaopmaa.Cd
