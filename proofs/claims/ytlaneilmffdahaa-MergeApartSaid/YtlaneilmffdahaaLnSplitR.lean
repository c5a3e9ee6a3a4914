/- ref.Split. -/
import Derived.Test.YtlaneilmffdahaaLnSplitC
namespace Go.Proofs.Ytlaneilmffdahaa.Ln
open Go.RowKit
set_option linter.unusedVariables false
set_option maxRecDepth 10000 in
theorem rsplit_any (A : Option Addr) (n C : Nat) (l : List Int) (w : World) (h : Rd w w.heap.size A n C (bv l)) (hn : n ≤ 1000000) :
    Calls Try.prog 41 #[.slice A n C] w (SplitRet l w) := by
  have hl : l.length = n := by have := h.hlen; simpa [bv] using this
  have hnC := h.hcap
  have hCM := h.hmax
  have H := Lib.hid h
  clear h
  go_enter Try.func41, Try.ntmps41
  go_wp2
  go_loopw [3, 4, 5] (fun s3 s4 s5 wx => ∃ (f i : Nat) (Ao : Option Addr) (Co : Nat) (d : List (List Int)), s3 = .slice Ao d.length Co ∧ s4 = .int .i64 f ∧ s5 = .int .i64 i ∧ f ≤ i ∧ i ≤ n ∧ d.length ≤ i ∧ Hid (d ++ splA ((l.drop f).take (i - f)) (l.drop i) = splA [] l) ∧ Hid (wx.ownsRow w.heap.size 9 1 (.slice Ao d.length Co) d.length (sv (d.map sb))) ∧ Hid (Below w.heap.size w wx)) (fun _ _ s5 _ => n - (intOf s5).toNat)
  case atStart => exact ⟨0, 0, none, 0, [], rfl, rfl, rfl, Nat.le_refl _, Nat.zero_le _, Nat.zero_le _, Lib.hid (by simp), Lib.hid ⟨rfl, Or.inl ⟨rfl, rfl⟩⟩, Lib.hid (Below.refl _ _)⟩
  case round =>
    obtain ⟨f, i, Ao, Co, d, rfl, rfl, rfl, hfi, hin, hdi, HS, HO, HB⟩ := hrel
    by_cases hlt : i < n
    · have HRw := Lib.hid (H.out.below HB.out)
      obtain ⟨b, off, hA, _, hc⟩ := HRw.out.byte i hlt
      have hdr : l.drop i = l.getD i 0 :: l.drop (i + 1) := by
        rw [List.drop_eq_getElem_cons (by omega)]; simp [List.getD, show i < l.length by omega]
      have hcur : (l.drop f).take (i - f) ++ [l.getD i 0] = (l.drop f).take (i + 1 - f) := by
        rw [show i + 1 - f = (i - f) + 1 from by omega, List.take_succ_eq_append_getElem (by rw [List.length_drop]; omega)]
        simp [List.getD, show i < l.length by omega, show f + (i - f) = i by omega]
      have hs := HS.out
      rw [hdr, splA, hcur] at hs
      have hcv := conv_rd ((HRw.out.cut f (by omega)).take (i + 1 - f) (by omega) |> fun r => (show Rd _ _ _ (i + 1 - f) _ (bv ((l.drop f).take (i + 1 - f))) from by
        rw [show ((bv l).drop f).take (i + 1 - f) = bv ((l.drop f).take (i + 1 - f)) from by simp [bv]] at r; exact r))
      generalize l.getD i 0 = x at hc hs
      by_cases hx : x = 10
      · rw [if_pos hx] at hs
        have hx' : ((x : Int) == 10) = true := by simp [hx]
        have HN : Hid ((d ++ [(l.drop f).take (i + 1 - f)]) ++ splA ((l.drop (i + 1)).take (i + 1 - (i + 1))) (l.drop (i + 1)) = splA [] l) := Lib.hid (by rw [← hs]; simp)
        clear hs hdr hcur HS hx
        subst hA
        have hCf : ¬ C = f := by omega
        simp only [Option.map_some, Addr.add_lit] at hcv
        rw [if_neg hCf] at hcv
        have hs1 : (0 : Int) ≤ (i : Int) + 1 := by omega
        have hs2 : (i : Int) + 1 ≤ (C : Int) := by omega
        have hs3 : ((i : Int) + 1).toNat = i + 1 := by omega
        have hs4 : (f : Int) ≤ (i : Int) + 1 := by omega
        have HLit := Lib.hid (lit_rd wr (sb ((l.drop f).take (i + 1 - f))))
        have HBa := Lib.hid ((Below.refl wr.heap.size wr).alloc (Nat.le_refl _) (.cells #[.string (sb ((l.drop f).take (i + 1 - f)))] 9))
        have HOa := Lib.hid (own_keep HO.out HBa.out)
        have hsa : w.heap.size ≤ (wr.alloc (.cells #[.string (sb ((l.drop f).take (i + 1 - f)))] 9)).heap.size := Nat.le_trans HB.out.size HBa.out.size
        have hmp := Lib.hid (show d.map sb ++ [sb ((l.drop f).take (i + 1 - f))] = (d ++ [((l.drop f).take (i + 1 - f))]).map sb by simp)
        go_wp2_with (at_builtin; refine wpList_append_strs _ rfl _ _ rfl w.heap.size _ d.length (d.map sb) rfl HOa.out _ _ 1 1 [sb ((l.drop f).take (i + 1 - f))] rfl HLit.out (d.length + 1) rfl ((d ++ [((l.drop f).take (i + 1 - f))]).map sb) hmp.out (by omega) hsa ?_)
        intro A5 C5 w5 ho5 hb5 hk5
        have HB5 := Lib.hid (HB.out.trans ((HBa.out.mono HB.out.size).trans hb5))
        have HO5 := Lib.hid ho5
        clear ho5 hb5 hk5 HLit HBa HOa HO HB hmp hsa hcv
        have hda : (d ++ [((l.drop f).take (i + 1 - f))]).length = d.length + 1 := by simp
        go_wp2
        go_roundw
        case rel => exact ⟨i + 1, i + 1, A5, C5, d ++ [(l.drop f).take (i + 1 - f)], by rw [hda], by go_num, by go_num, by omega, by omega, by rw [hda]; omega, HN, by rw [hda, List.map_append]; exact HO5, HB5⟩
        case measure => simp [intOf]; omega
      · rw [if_neg hx] at hs
        have hx' : ((x : Int) == 10) = false := by simp [hx]
        have HN := Lib.hid hs
        clear hs hdr hcur HS hx hcv
        subst hA
        go_wp2
        go_roundw
        case rel => exact ⟨f, i + 1, Ao, Co, d, rfl, rfl, by go_num, by omega, by omega, by omega, HN, HO, HB⟩
        case measure => simp [intOf]; omega
    · obtain rfl : i = n := by omega
      have hs := HS.out
      rw [show l.drop i = [] from List.drop_eq_nil_of_le (by omega), show (l.drop f).take (i - f) = l.drop f from List.take_of_length_le (by rw [List.length_drop]; omega)] at hs
      clear HS
      by_cases hf : f < i
      · have hne : l.drop f ≠ [] := fun e => by have := congrArg List.length e; rw [List.length_drop] at this; simp at this; omega
        rw [splA, if_neg hne] at hs
        have HRw := Lib.hid (H.out.below HB.out)
        obtain ⟨b, off, hA, _, hc⟩ := HRw.out.byte f hf
        have hcv := conv_rd ((HRw.out.cut f (by omega)) |> fun r => (show Rd _ _ _ (i - f) _ (bv (l.drop f)) from by
          rw [show (bv l).drop f = bv (l.drop f) from by simp [bv]] at r; exact r))
        subst hA
        have hCf : ¬ C = f := by omega
        simp only [Option.map_some, Addr.add_lit] at hcv
        rw [if_neg hCf] at hcv
        have hfC : f ≤ C := by omega
        have HSx := Lib.hid hs
        clear hs hne hc
        have HLit := Lib.hid (lit_rd wr (sb (l.drop f)))
        have HBa := Lib.hid ((Below.refl wr.heap.size wr).alloc (Nat.le_refl _) (.cells #[.string (sb (l.drop f))] 9))
        have HOa := Lib.hid (own_keep HO.out HBa.out)
        have hsa : w.heap.size ≤ (wr.alloc (.cells #[.string (sb (l.drop f))] 9)).heap.size := Nat.le_trans HB.out.size HBa.out.size
        have hmp := Lib.hid (show d.map sb ++ [sb (l.drop f)] = (d ++ [(l.drop f)]).map sb by simp)
        go_wp2_with (at_builtin; refine wpList_append_strs _ rfl _ _ rfl w.heap.size _ d.length (d.map sb) rfl HOa.out _ _ 1 1 [sb (l.drop f)] rfl HLit.out (d.length + 1) rfl ((d ++ [(l.drop f)]).map sb) hmp.out (by omega) hsa ?_)
        intro A5 C5 w5 ho5 hb5 hk5
        have HB5 := Lib.hid (HB.out.trans ((HBa.out.mono HB.out.size).trans hb5))
        have HO5 := Lib.hid ho5
        clear ho5 hb5 hk5 HLit HBa HOa HO HB hmp hsa hcv
        have hda : (d ++ [(l.drop f)]).length = d.length + 1 := by simp
        have hlen : (splA [] l).length = d.length + 1 := by rw [← HSx.out]; simp
        go_wp2
        go_ret
        refine ⟨A5, C5, by rw [hlen]; rfl, ?_, HB5.out⟩
        rw [hlen, ← HSx.out, List.map_append]
        exact HO5.out
      · obtain rfl : f = i := by omega
        rw [show l.drop f = [] from List.drop_eq_nil_of_le (by omega)] at hs
        have e : splA [] l = d := by rw [← hs]; simp [splA]
        clear hs
        go_wp2
        go_ret
        exact ⟨Ao, Co, by rw [e]; rfl, by rw [e]; exact HO.out, HB.out⟩
end Go.Proofs.Ytlaneilmffdahaa.Ln
