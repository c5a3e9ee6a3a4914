/- What EncodeTree and ParseTree hand back, told in one way. -/
import Derived.Test.YtmcmapgllaopmaaCdEnts
namespace Go.Proofs.Ytmcmapgllaopmaa.Cd
open Go.RowKit
set_option linter.unusedVariables false

/-- the bytes told: none where there is an error -/
def eR (es : List Fr.Ent) : List Int := if eE es = 0 then eB es else []
theorem et_one {es : List Fr.Ent} {w : World} {e : Ending} {w' : World} (h : EtRet es w e w') : Below w.heap.size w w' ∧ ∃ v, e = .returned (.tuple #[v, .int .i64 (eE es)]) ∧ w'.ownsRow w.heap.size 5 1 v (eR es).length (bv (eR es)) := by
  obtain ⟨hb, ⟨hne, rfl⟩ | ⟨hz, v, rfl, ho⟩⟩ := h
  · refine ⟨hb, _, rfl, ?_⟩
    unfold eR
    rw [if_neg hne]
    exact own_nil _ _
  · refine ⟨hb, v, by rw [hz], ?_⟩
    unfold eR
    rw [if_pos hz]
    exact ho

theorem tkL_len (f : Int) (l : List Int) (a L n : Nat) : (tkL f l a L n).length ≤ l.length := by
  unfold tkL
  split
  · rw [List.length_take, List.length_drop]; omega
  · simp
theorem pT_err (l : List Int) (L : Nat) : ∀ (n p : Nat) (es : List Fr.Ent), (pT l L n p es).1 ≠ 0 → (pT l L n p es).2 = []
  | 0, p, es, h => by rw [pT] at h; exact absurd rfl h
  | n + 1, p, es, h => by
    rw [pT] at h ⊢
    by_cases h1 : p = L
    · rw [if_pos h1] at h; exact absurd rfl h
    · rw [if_neg h1] at h ⊢
      by_cases h2 : rdF l p L es.length (lastN es) = 0
      · rw [if_pos h2] at h ⊢
        exact pT_err l L n _ _ h
      · rw [if_neg h2]
theorem pT_ok (l : List Int) (L : Nat) : ∀ (n p : Nat) (es : List Fr.Ent), es.length ≤ 512 → (∀ x ∈ es, x.name.size ≤ l.length) → (pT l L n p es).2.length ≤ 512 ∧ ∀ x ∈ (pT l L n p es).2, x.name.size ≤ l.length
  | 0, p, es, h, hx => by rw [pT]; exact ⟨h, hx⟩
  | n + 1, p, es, h, hx => by
    rw [pT]
    by_cases h1 : p = L
    · rw [if_pos h1]; exact ⟨h, hx⟩
    · rw [if_neg h1]
      by_cases h2 : rdF l p L es.length (lastN es) = 0
      · rw [if_pos h2]
        have h3 := (rd_step h2).2
        refine pT_ok l L n _ _ (by rw [List.length_append, List.length_singleton]; omega) (fun x hm => ?_)
        rcases List.mem_append.1 hm with hm | hm
        · exact hx x hm
        · rw [List.mem_singleton.1 hm]
          show (rd1 l p L).nm.size ≤ l.length
          unfold rd1
          rw [sb_size]
          exact tkL_len _ _ _ _ _
      · rw [if_neg h2]
        exact ⟨by simp, by simp⟩

theorem pt_one {l : List Int} {L : Nat} {w : World} {e : Ending} {w' : World} (hl : l.length ≤ 1000000) (h : PtRet l L w e w') : Below w.heap.size w w' ∧ ∃ Ae Ce, e = .returned (.tuple #[.slice Ae (pT l L (L + 1) 0 []).2.length Ce, .int .i64 (pT l L (L + 1) 0 []).1]) ∧ RdE w' Ae (pT l L (L + 1) 0 []).2.length Ce (pT l L (L + 1) 0 []).2 := by
  obtain ⟨hb, ⟨hne, rfl⟩ | ⟨hz, hid, Ae, Ce, rfl, ho⟩⟩ := h
  · refine ⟨hb, none, 0, ?_, ?_⟩
    · rw [pT_err l L _ _ _ hne]; rfl
    · rw [pT_err l L _ _ _ hne]; exact RdE.nil _
  · have hok := pT_ok l L (L + 1) 0 [] (by simp) (by simp)
    refine ⟨hb, Ae, Ce, by rw [hz], RdE.of_own ho (fun x hx => ⟨hid x hx, ?_⟩) (by omega) rfl⟩
    have := hok.2 x hx
    omega
theorem conv_eq (s : ByteArray) : (s.toList == s.toList) = true := by simp
end Go.Proofs.Ytmcmapgllaopmaa.Cd
