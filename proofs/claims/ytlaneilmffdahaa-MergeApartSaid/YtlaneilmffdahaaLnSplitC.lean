/- lines.Split. -/
import Derived.Test.YtlaneilmffdahaaLnSplit
import Derived.Test.YtlaneilmffdahaaLnLeast
namespace Go.Proofs.Ytlaneilmffdahaa.Ln
open Go.RowKit
set_option linter.unusedVariables false
def SplitRet (l : List Int) (w : World) (e : Ending) (w' : World) : Prop :=
  ∃ A C, e = .returned (.slice A (splA [] l).length C) ∧ w'.ownsRow w.heap.size 9 1 (.slice A (splA [] l).length C) (splA [] l).length (sv ((splA [] l).map sb)) ∧ Below w.heap.size w w'
theorem split_any (A : Option Addr) (n C : Nat) (l : List Int) (w : World) (h : Rd w w.heap.size A n C (bv l)) (hb : ∀ x ∈ l, 0 ≤ x ∧ x ≤ 255) (hn : n ≤ 1000000) :
    Calls Try.prog 42 #[.slice A n C] w (SplitRet l w) := by
  have hl : l.length = n := by have := h.hlen; simpa [bv] using this
  have H := Lib.hid h
  have HBy := Lib.hid hb
  clear h hb
  go_enter Try.func42, Try.ntmps42
  go_wp2
  go_loopw [0, 3] (fun s0 s3 wx => ∃ (A' : Option Addr) (C' k m : Nat) (Ao : Option Addr) (Co : Nat) (d : List (List Int)), s0 = .slice A' m C' ∧ s3 = .slice Ao d.length Co ∧ m + k = n ∧ d.length ≤ k ∧ Hid (d ++ splA [] (l.drop k) = splA [] l) ∧ Hid (Rd wx w.heap.size A' m C' (bv (l.drop k))) ∧ Hid (wx.ownsRow w.heap.size 9 1 (.slice Ao d.length Co) d.length (sv (d.map sb))) ∧ Hid (Below w.heap.size w wx)) (fun s0 _ _ => match s0 with | .slice _ m _ => m | _ => 0)
  case atStart => exact ⟨A, C, 0, n, none, 0, [], rfl, rfl, by omega, Nat.zero_le _, Lib.hid rfl, H, Lib.hid ⟨rfl, Or.inl ⟨rfl, rfl⟩⟩, Lib.hid (Below.refl _ _)⟩
  case round =>
    obtain ⟨A', C', k, m, Ao, Co, d, rfl, rfl, hmk, hdk, HS, HR, HO, HB⟩ := hrel
    have hmC := HR.out.hcap
    have hMC := HR.out.hmax
    by_cases hm : 0 < m
    · have hld : (l.drop k).length = m := by rw [List.length_drop]; omega
      have HI := Lib.hid (index_rd HR.out hm 10)
      have hd0 : decide ((0 : Int) < (m : Int)) = true := by simp; omega
      rcases index_ten (l.drop k) (fun x hx => HBy.out x (List.mem_of_mem_drop hx)) with ⟨i1, i2⟩ | ⟨p, q, hpq, i2, i3⟩
      · rw [i1] at HI
        have hsp : (d ++ [(l.drop k).take m]) ++ splA [] (l.drop (k + m)) = splA [] l := by
          rw [← HS.out, splA_last _ _ i2, List.take_of_length_le (by omega), show l.drop (k + m) = [] from List.drop_eq_nil_of_le (by omega), List.nil_append, if_neg (fun e => by rw [e] at hld; simp at hld; omega)]
          simp [splA]
        have HSPh := Lib.hid hsp
        clear i1 i2 hsp
        go_wp2_with fail
        refine HI.out.mono ?_
        rintro e wx ⟨rfl, rfl⟩
        clear HI HS
        have hR2 := HR.out.take m (by omega)
        rw [show (bv (l.drop k)).take m = bv ((l.drop k).take m) from by simp [bv]] at hR2
        have hcv := conv_rd (A := A') (n := m) (C := C') hR2
        have hR3 := HR.out.cut m (by omega)
        rw [show (bv (l.drop k)).drop m = bv (l.drop (k + m)) from by simp [bv]] at hR3
        obtain ⟨AD, hAD⟩ : ∃ AD, (if C' = m then A' else Option.map (fun x => x.add m) A') = AD := ⟨_, rfl⟩
        rw [hAD] at hR3
        have HLit := Lib.hid (lit_rd wx (sb ((l.drop k).take m)))
        have HBa := Lib.hid ((Below.refl wx.heap.size wx).alloc (Nat.le_refl _) (.cells #[.string (sb ((l.drop k).take m))] 9))
        have HOa := Lib.hid (own_keep HO.out HBa.out)
        have hsa : w.heap.size ≤ (wx.alloc (.cells #[.string (sb ((l.drop k).take m))] 9)).heap.size := Nat.le_trans HB.out.size HBa.out.size
        have hmp := Lib.hid (show d.map sb ++ [sb ((l.drop k).take m)] = (d ++ [(l.drop k).take m]).map sb by simp)
        have HR3 := Lib.hid hR3
        have hct : m ≤ C' := by omega
        clear hR2 hR3
        go_wp2_with (at_builtin; (refine wpList_append_strs _ rfl _ _ rfl w.heap.size _ d.length (d.map sb) rfl HOa.out _ _ 1 1 [sb ((l.drop k).take m)] rfl HLit.out (d.length + 1) rfl ((d ++ [(l.drop k).take m]).map sb) hmp.out (by omega) hsa ?_))
        intro A5 C5 w5 ho5 hb5 hk5
        have HB5 := Lib.hid (HB.out.trans ((HBa.out.mono HB.out.size).trans hb5))
        have HR5 := Lib.hid (HR3.out.below ((HBa.out.mono HB.out.size).trans hb5))
        have HO5 := Lib.hid ho5
        clear ho5 hb5 hk5 HLit HBa HOa HR3 HR HO HB
        clear hmp hsa
        have hda : (d ++ [(l.drop k).take m]).length = d.length + 1 := by simp
        clear hcv
        go_wp2
        go_roundw
        case rel => exact ⟨AD, C' - m, k + m, m - m, A5, C5, d ++ [(l.drop k).take m], by first | rfl | (rw [Nat.sub_self]) | (rw [← hAD]; rfl), by rw [hda], by omega, by rw [hda]; omega, HSPh, HR5, by rw [hda, List.map_append]; exact HO5, HB5⟩
        case measure => simp; omega
      · obtain ⟨u, hu⟩ : ∃ u, u = p.length := ⟨_, rfl⟩
        rw [i3, ← hu] at HI
        have hum : u + 1 ≤ m := by rw [← hld, hpq]; simp; omega
        have hsp : (d ++ [(l.drop k).take (u + 1)]) ++ splA [] (l.drop (k + (u + 1))) = splA [] l := by
          rw [← HS.out, ← List.drop_drop, hpq, splA_line _ _ _ i2, hu, show p ++ 10 :: q = (p ++ [10]) ++ q from by simp, List.take_left' (by simp), List.drop_left' (by simp)]
          simp
        have hs1 : (0 : Int) ≤ (u : Int) + 1 := by omega
        have hs2 : (u : Int) + 1 ≤ (m : Int) := by omega
        have hs3 : ((u : Int) + 1).toNat = u + 1 := by omega
        have hs4 : (u : Int) + 1 ≤ (C' : Int) := by omega
        have hs5 : ((u : Int) + 1 == 0) = false := by simp; omega
        have HSPh := Lib.hid hsp
        clear i3 i2 hpq hu hsp
        go_wp2_with fail
        refine HI.out.mono ?_
        rintro e wx ⟨rfl, rfl⟩
        clear HI HS
        have hR2 := HR.out.take (u + 1) (by omega)
        rw [show (bv (l.drop k)).take (u + 1) = bv ((l.drop k).take (u + 1)) from by simp [bv]] at hR2
        have hcv := conv_rd (A := A') (n := u + 1) (C := C') hR2
        have hR3 := HR.out.cut (u + 1) (by omega)
        rw [show (bv (l.drop k)).drop (u + 1) = bv (l.drop (k + (u + 1))) from by simp [bv]] at hR3
        obtain ⟨AD, hAD⟩ : ∃ AD, (if C' = u + 1 then A' else Option.map (fun x => x.add (u + 1)) A') = AD := ⟨_, rfl⟩
        rw [hAD] at hR3
        have HLit := Lib.hid (lit_rd wx (sb ((l.drop k).take (u + 1))))
        have HBa := Lib.hid ((Below.refl wx.heap.size wx).alloc (Nat.le_refl _) (.cells #[.string (sb ((l.drop k).take (u + 1)))] 9))
        have HOa := Lib.hid (own_keep HO.out HBa.out)
        have hsa : w.heap.size ≤ (wx.alloc (.cells #[.string (sb ((l.drop k).take (u + 1)))] 9)).heap.size := Nat.le_trans HB.out.size HBa.out.size
        have hmp := Lib.hid (show d.map sb ++ [sb ((l.drop k).take (u + 1))] = (d ++ [(l.drop k).take (u + 1)]).map sb by simp)
        have HR3 := Lib.hid hR3
        have hct : u + 1 ≤ C' := by omega
        clear hR2 hR3
        go_wp2_with (at_builtin; (refine wpList_append_strs _ rfl _ _ rfl w.heap.size _ d.length (d.map sb) rfl HOa.out _ _ 1 1 [sb ((l.drop k).take (u + 1))] rfl HLit.out (d.length + 1) rfl ((d ++ [(l.drop k).take (u + 1)]).map sb) hmp.out (by omega) hsa ?_))
        intro A5 C5 w5 ho5 hb5 hk5
        have HB5 := Lib.hid (HB.out.trans ((HBa.out.mono HB.out.size).trans hb5))
        have HR5 := Lib.hid (HR3.out.below ((HBa.out.mono HB.out.size).trans hb5))
        have HO5 := Lib.hid ho5
        clear ho5 hb5 hk5 HLit HBa HOa HR3 HR HO HB
        clear hmp hsa
        have hda : (d ++ [(l.drop k).take (u + 1)]).length = d.length + 1 := by simp
        clear hcv
        go_wp2
        go_roundw
        case rel => exact ⟨AD, C' - (u + 1), k + (u + 1), m - (u + 1), A5, C5, d ++ [(l.drop k).take (u + 1)], by first | rfl | (rw [Nat.sub_self]) | (rw [← hAD]; rfl), by rw [hda], by omega, by rw [hda]; omega, HSPh, HR5, by rw [hda, List.map_append]; exact HO5, HB5⟩
        case measure => simp; omega
    · obtain rfl : m = 0 := by omega
      have e : splA [] l = d := by
        rw [← HS.out, List.drop_eq_nil_of_le (by omega)]; simp [splA]
      go_wp2
      go_ret
      exact ⟨Ao, Co, by rw [e]; rfl, by rw [e]; exact HO.out, HB.out⟩
end Go.Proofs.Ytlaneilmffdahaa.Ln
