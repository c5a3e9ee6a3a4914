/- short, few: texts that are not too much. -/
import Derived.Test.YtlaneilmffdahaaMgMerge
import Derived.Test.YtlaneilmffdahaaLnFew
namespace Go.Proofs.Ytlaneilmffdahaa.Mg
open Go.RowKit Go.Proofs.Ytlaneilmffdahaa.Ln
set_option linter.unusedVariables false

theorem rsplit_str (A : Option Addr) (n C : Nat) (z : List Int) (w : World) (h : Rd w w.heap.size A n C (bv z)) (hn : n ≤ 1000000) :
    Calls Try.prog 41 #[.slice A n C] w (StrRet (spl z) w) :=
  (rsplit_any A n C z w h hn).mono fun e w' ⟨A', C', he, ho, hbl⟩ => ⟨A', C', by rw [he, spl_len], by rw [spl_len]; exact ho, hbl⟩
set_option maxRecDepth 100000 in
set_option maxHeartbeats 2000000 in
theorem short_any (B : Nat) (A : Option Addr) (n C : Nat) (z : List Int) (w : World) (h : Rd w B A n C (bv z)) (hB : B ≤ w.heap.size) :
    Calls Try.prog 17 #[.slice A n C] w fun e w' => ∃ f : Bool, e = .returned (.bool f) ∧ (f = true → n ≤ 2999 ∧ (spl z).length ≤ 119) ∧ Below w.heap.size w w' := by
  have hc := h.hcap
  have hm := h.hmax
  have hl : z.length = n := by have := h.hlen; simpa [bv] using this
  by_cases hlt : n < 3000
  · have d1 : decide ((n : Int) < 3000) = true := by simp; omega
    have HS := Lib.hid (rsplit_str A n C z w (h.more hB) (by omega))
    have hsz : ∀ s ∈ spl z, s.size ≤ 140737488351232 := fun s hs => by have := spl_size z s hs; omega
    have hll : (spl z).length ≤ 3000 := by have := spl_lines z; omega
    have HSZ := Lib.hid hsz
    clear h hsz hl
    generalize spl z = ss at *
    go_enter Try.func17, Try.ntmps17
    go_wp2_with fail
    refine HS.out.mono ?_
    rintro e w1 ⟨A1, C1, rfl, ho, hb⟩
    have HF := Lib.hid (few_sum w1.heap.size A1 ss.length C1 ss w1 (Rd.of_own ho (by omega)).1 HSZ.out)
    have HB := Lib.hid hb
    clear ho hb
    go_wp2_with fail
    refine HF.out.mono ?_
    rintro e w2 ⟨f, rfl, hf, hb2⟩
    have HB2 := Lib.hid (HB.out.trans (hb2.mono HB.out.size))
    have HFF := Lib.hid hf
    clear hf hb2
    go_wp2_with fail
    go_ret
    exact ⟨f, rfl, fun h => ⟨by omega, (HFF.out h).1⟩, HB2.out⟩
  · have d1 : decide ((n : Int) < 3000) = false := by simp; omega
    clear h hl
    go_enter Try.func17, Try.ntmps17
    go_wp2_with fail
    go_ret
    exact ⟨false, rfl, (fun h => by cases h), Below.refl _ _⟩
end Go.Proofs.Ytlaneilmffdahaa.Mg
