/- name.Fits and the document's Fits, walked. -/
import Derived.Test.YtnognfhcddmikaaNmFits
namespace Go.Proofs.Ytnognfhcddmikaa.Nm
open Go.RowKit
set_option linter.unusedVariables false

def preB (p s : List UInt8) : Bool := decide (p <+: s)
def clash (s o : List UInt8) : Bool := preB (s ++ [47]) o || preB (o ++ [47]) s

theorem pre_slash (x s : ByteArray) (w : World) (hx : x.size ≤ maxLen) (hs : s.size < maxLen) :
    Calls Try.prog 16 #[.string x, .string (s ++ { data := #[47] })] w fun e w' => e = .returned (.bool (preB (s.data.toList ++ [47]) x.data.toList)) ∧ w = w' := by
  have h := pre_any x (s ++ { data := #[47] }) w hx (by rw [ByteArray.size_append]; show s.size + 1 ≤ maxLen; omega)
  have e : (s ++ { data := #[47] } : ByteArray).data.toList = s.data.toList ++ [47] := by simp
  rw [e] at h
  exact h

theorem below_slash (s p : ByteArray) (w : World) (hs : s.size ≤ maxLen) (hp : p.size ≤ maxLen) :
    Calls Try.prog 17 #[.string s, .string p] w fun e w' => e = .returned (.bool (preB (p.data.toList ++ [47]) s.data.toList)) ∧ w = w' :=
  below_any s p w hs hp

/-- whether s fits beside ls -/
def fits (s : List UInt8) (ls : List (List UInt8)) : Int :=
  if nm s = false then 7 else if s ∈ ls then 8 else if ls.any (clash s) then 13 else 0

theorem eno_0 {b : Bool} (h : b = true) : eno b = 0 := by rw [h]; rfl
theorem eno_7 {b : Bool} (h : b = false) : eno b = 7 := by rw [h]; rfl

theorem nm_size (s : ByteArray) (h : nm s.data.toList = true) : s.size ≤ 60 := by
  unfold nm at h
  simp at h
  simpa using h.1

set_option maxHeartbeats 1000000 in
theorem fits_any (s : ByteArray) (b off len cap : Nat) (ss : List ByteArray) (w : World) (hs : s.size ≤ maxLen) (hl : len ≤ maxLen) (hc : Cells w b off len ss)
    (ho : ∀ o ∈ ss, o.size ≤ 140737488351232) :
    Calls Try.prog 10 #[.string s, .slice (some ⟨b, off, none⟩) len cap] w fun e w' => e = .returned (.int .i64 (fits s.data.toList (dl ss))) ∧ w = w' := by
  cases hn : nm s.data.toList
  · have HN := Lib.hid hn
    clear hn
    have he := eno_7 HN.out
    have ck := check_any s w hs
    rw [he] at ck
    clear he
    have CK := Lib.hid ck
    clear ck
    go_enter Try.func10, Try.ntmps10
    go_wp2_with (go_at_call 8; refine CK.out.mono ?_; rintro e w' ⟨rfl, rfl⟩)
    go_ret
    exact ⟨ret_int (by unfold fits; rw [if_pos HN.out]), rfl⟩
  have HN := Lib.hid hn
  have h60 := nm_size s hn
  clear hn hs
  have he := eno_0 HN.out
  have ck := check_any s w (by unfold maxLen; omega)
  rw [he] at ck
  clear he
  have CK := Lib.hid ck
  clear ck
  by_cases hm : s.data.toList ∈ dl ss
  · have HF : Hid (fits s.data.toList (dl ss) = 8) := Lib.hid (by unfold fits; rw [if_neg (by rw [HN.out]; simp), if_pos hm])
    have cn := contains_any b off len cap ss s w hl hc
    rw [decide_eq_true hm] at cn
    have CN := Lib.hid cn
    clear cn hm hc
    go_enter Try.func10, Try.ntmps10
    go_wp2_with (first | (go_at_call 8; refine CK.out.mono ?_; rintro e w' ⟨rfl, rfl⟩) | (go_at_call 15; refine CN.out.mono ?_; rintro e w' ⟨rfl, rfl⟩))
    go_ret
    exact ⟨ret_int (by rw [HF.out]), rfl⟩
  have HF : Hid (fits s.data.toList (dl ss) = if (dl ss).any (clash s.data.toList) then 13 else 0) := Lib.hid (by unfold fits; rw [if_neg (by rw [HN.out]; simp), if_neg hm])
  have cn := contains_any b off len cap ss s w hl hc
  rw [decide_eq_false hm] at cn
  have CN := Lib.hid cn
  have HC := Lib.hid hc
  have HO := Lib.hid ho
  clear cn hm hc ho
  unfold maxLen at hl
  go_enter Try.func10, Try.ntmps10
  go_wp2_with (first | (go_at_call 8; refine CK.out.mono ?_; rintro e w' ⟨rfl, rfl⟩) | (go_at_call 15; refine CN.out.mono ?_; rintro e w' ⟨rfl, rfl⟩))
  go_loop [18] (fun i => ∃ k : Nat, k ≤ len ∧ i = .int .i64 k ∧ Hid ((dl ss).any (clash s.data.toList) = ((dl ss).drop k).any (clash s.data.toList))) (fun i => len - (intOf i).toNat)
  case atStart => exact ⟨0, Nat.zero_le _, rfl, Lib.hid rfl⟩
  case round =>
    obtain ⟨k, hk, rfl, H⟩ := hrel
    by_cases hlt : k < len
    · have hcell := HC.out.2 k hlt
      have hd := dl_drop ss k (by rw [HC.out.1]; exact hlt)
      have hin : ss.getD k ByteArray.empty ∈ ss := by rw [List.getD_eq_getElem?_getD, List.getElem?_eq_getElem (by rw [HC.out.1]; exact hlt)]; exact List.getElem_mem _
      have hsz := HO.out _ hin
      generalize hx : ss.getD k ByteArray.empty = x at hcell hd hsz
      have HS : Hid ((dl ss).any (clash s.data.toList) = (clash s.data.toList x.data.toList || ((dl ss).drop (k + 1)).any (clash s.data.toList))) := Lib.hid (by rw [H.out, hd]; rfl)
      clear hd hx H hin
      cases h1 : preB (s.data.toList ++ [47]) x.data.toList
      · cases h2 : preB (x.data.toList ++ [47]) s.data.toList
        · have HT : Hid ((dl ss).any (clash s.data.toList) = ((dl ss).drop (k + 1)).any (clash s.data.toList)) := Lib.hid (by rw [HS.out]; unfold clash; rw [h1, h2]; rfl)
          clear HS
          go_wp2_with fail
          refine (pre_slash _ _ _ (by unfold maxLen; omega) (by unfold maxLen; omega)).mono ?_
          rintro e w' ⟨rfl, rfl⟩
          go_wp2_with fail
          refine (pre_slash _ _ _ (by unfold maxLen; omega) (by unfold maxLen; omega)).mono ?_
          rintro e w' ⟨rfl, rfl⟩
          go_wp2
          go_round
          case rel => exact ⟨k + 1, by omega, by go_num, HT⟩
          case measure => simp [intOf]; omega
        · have HT : Hid ((dl ss).any (clash s.data.toList) = true) := Lib.hid (by rw [HS.out]; unfold clash; rw [h1, h2]; rfl)
          clear HS
          go_wp2_with fail
          refine (pre_slash _ _ _ (by unfold maxLen; omega) (by unfold maxLen; omega)).mono ?_
          rintro e w' ⟨rfl, rfl⟩
          go_wp2_with fail
          refine (pre_slash _ _ _ (by unfold maxLen; omega) (by unfold maxLen; omega)).mono ?_
          rintro e w' ⟨rfl, rfl⟩
          go_wp2
          go_ret
          exact ⟨ret_int (by rw [HF.out, HT.out]; rfl), rfl⟩
      · have HT : Hid ((dl ss).any (clash s.data.toList) = true) := Lib.hid (by rw [HS.out]; unfold clash; rw [h1]; rfl)
        clear HS
        go_wp2_with fail
        refine (pre_slash _ _ _ (by unfold maxLen; omega) (by unfold maxLen; omega)).mono ?_
        rintro e w' ⟨rfl, rfl⟩
        go_wp2
        go_ret
        exact ⟨ret_int (by rw [HF.out, HT.out]; rfl), rfl⟩
    · have HG : Hid ((dl ss).any (clash s.data.toList) = false) := Lib.hid (by rw [H.out, List.drop_eq_nil_of_le (by simp [dl, HC.out.1]; omega)]; rfl)
      clear H
      go_wp2
      go_ret
      exact ⟨ret_int (by rw [HF.out, HG.out]; rfl), rfl⟩
end Go.Proofs.Ytnognfhcddmikaa.Nm
