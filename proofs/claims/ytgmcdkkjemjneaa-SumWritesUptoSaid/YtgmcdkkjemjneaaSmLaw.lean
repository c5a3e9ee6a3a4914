/- What the laws of the sum share. -/
import Derived.Test.YtgmcdkkjemjneaaSmROf
import Derived.Test.YtgmcdkkjemjneaaSmIds
import Derived.Test.YtgmcdkkjemjneaaSmWithin
import Derived.Test.YtgmcdkkjemjneaaFrRows
namespace Go.Proofs.Ytgmcdkkjemjneaa.Sm
open Go.RowKit
set_option linter.unusedVariables false

theorem rd_of_ints {w : World} {a : Option Addr} {len cap : Nat} {zs : List Int} (h : Fr.IsInts .u8 1 w a len cap zs) : RdB w a len cap zs := by
  rcases h with ⟨rfl, rfl, rfl, rfl⟩ | ⟨x, rfl, hl, hm, hz, hc, hw⟩
  · exact ⟨rfl, Nat.le_refl _, by omega, by omega, fun _ => rfl, fun i hi => absurd hi (by omega), fun x hx => by cases hx⟩
  · refine ⟨hz, hl, by omega, by omega, (fun hn => by cases hn), ?_, ?_⟩
    · intro i hi
      have hm : zs.getD i 0 ∈ zs := by rw [List.getD_eq_getElem?_getD, List.getElem?_eq_getElem (by omega)]; exact List.getElem_mem _
      have h1 := hw _ hm
      have e1 : IntKind.u8.min = 0 := rfl
      have e2 : IntKind.u8.max = 255 := rfl
      simp only [Lit.wf, Bool.and_eq_true, decide_eq_true_eq] at h1
      omega
    · intro y hy
      obtain rfl := Option.some.inj hy
      exact ⟨fun h0 => by simpa [Addr.add] using block_lt_of_cell (hc 0 h0), hc⟩
theorem RdB.of_own {w : World} {B g n C : Nat} {l : List Int} (h : w.ownsRow B 5 1 (.slice (some ⟨g, 0, Option.none⟩) n C) n (bv l)) (hn : n ≤ 140737488355328) (hb : ∀ i, i < n → 0 ≤ l.getD i 0 ∧ l.getD i 0 ≤ 255) : RdB w (some ⟨g, 0, Option.none⟩) n C l := by
  have h1 := h.1
  rw [bv, List.length_map] at h1
  rcases h.2 with ⟨hv, _⟩ | ⟨g', cap, cur, hv, hg, hh, hc1, hc2, hc3, ht⟩
  · simp at hv
  · simp only [Value.slice.injEq, Option.some.injEq, Addr.mk.injEq, and_true, true_and] at hv
    obtain ⟨rfl, rfl⟩ := hv
    refine ⟨by omega, hc1, hc2, hn, (fun hn => by cases hn), hb, fun x hx => ?_⟩
    obtain rfl := Option.some.inj hx
    have hl : g < w.heap.size := by
      rcases Nat.lt_or_ge g w.heap.size with h | h
      · exact h
      · rw [Array.getElem?_eq_none h] at hh; simp at hh
    refine ⟨fun _ => hl, fun i hi => ?_⟩
    rw [show Addr.add ⟨g, 0, Option.none⟩ i = (⟨g, i, Option.none⟩ : Addr) from by simp [Addr.add]; omega, World.ownsRow.cellAt h i (by omega)]
    simp [bv, show i < l.length by omega]
theorem RdB.nil (w : World) : RdB w Option.none 0 0 [] := ⟨rfl, Nat.le_refl _, by omega, by omega, fun _ => rfl, fun i hi => absurd hi (by omega), fun x hx => by cases hx⟩
/-- any own row of bytes is read -/
theorem RdB.of_own' {w : World} {B n : Nat} {v : Value} {l : List Int} (h : w.ownsRow B 5 1 v n (bv l)) (hn : n ≤ 140737488355328) (hb : ∀ i, i < n → 0 ≤ l.getD i 0 ∧ l.getD i 0 ≤ 255) : ∃ A C, v = .slice A n C ∧ RdB w A n C l := by
  rcases h.2 with ⟨rfl, rfl⟩ | ⟨g, cap, cur, rfl, hg, hh, hc1, hc2, hc3, ht⟩
  · have h1 := h.1
    have : l = [] := List.eq_nil_of_length_eq_zero (by simpa [bv] using h1)
    subst this
    exact ⟨Option.none, 0, rfl, RdB.nil w⟩
  · exact ⟨_, _, rfl, RdB.of_own h hn hb⟩
/-- where its first cell lies -/
theorem RdB.at {w : World} {A : Option Addr} {n C : Nat} {l : List Int} (h : RdB w A n C l) (h0 : 0 < n) : ∃ g o, A = some ⟨g, o, Option.none⟩ ∧ g < w.heap.size ∧ ∀ i, i < n → w.cell? ⟨g, o + i, Option.none⟩ = some (.int .u8 (l.getD i 0)) := by
  cases hA : A with
  | none => have := h.none hA; have := h.cap; omega
  | some x =>
    obtain ⟨h1, h2⟩ := h.cell x hA
    obtain ⟨b, off, spot⟩ := x
    have hspot : spot = Option.none := by simpa [Addr.add] using World.cell?_spot (h2 0 h0)
    subst hspot
    exact ⟨b, off, rfl, h1 h0, fun i hi => by rw [← h2 i hi]; congr 1; simp [Addr.add]⟩
theorem RdB.rowOk {w : World} {A : Option Addr} {n C : Nat} {l : List Int} (h : RdB w A n C l) (H s : Nat) (hs : s ≠ H) (hsz : s < w.heap.size) (hH : ∀ x, A = some x → 0 < n → x.block ≠ H) : RowOk w H A n C l := by
  refine ⟨h.len, h.cap, h.max, h.byte, ?_⟩
  by_cases h0 : 0 < n
  · obtain ⟨g, o, hA, hg, hc⟩ := h.at h0
    exact ⟨g, o, fun _ => hA, hH _ hA h0, hg, hc⟩
  · exact ⟨s, 0, fun h' => absurd h' h0, hs, hsz, fun i hi => absurd hi (by omega)⟩

/-- sum.Of of one row -/
theorem of_one (A : Option Addr) (n C : Nat) (l : List Int) (w : World) (h : RdB w A n C l) (hn : n ≤ 1000000000) :
    Calls Try.prog 9 #[.slice (some ⟨w.heap.size, 0, none⟩) 1 1] (w.alloc (.cells #[.slice A n C] 24)) fun e w' => e = .returned (.agg (bv (sha l)).toArray) ∧ Below w.heap.size w w' := by
  have hb := (Below.refl w.heap.size w).alloc (Nat.le_refl _) (.cells #[.slice A n C] 24)
  have hs := al_lt w (.cells #[.slice A n C] 24)
  have hc : (w.alloc (.cells #[.slice A n C] 24)).cell? ⟨w.heap.size, 0, none⟩ = some (.slice A n C) := by
    rw [World.cell?_alloc_new]; rfl
  have hr := (h.below hb).rowOk (w.alloc (.cells #[.slice A n C] 24)).heap.size w.heap.size (by omega) hs (fun x hx h0 => by
    obtain ⟨h1, -⟩ := h.cell x hx
    have := h1 h0
    omega)
  have hl1 : rowsTo (fun _ => l) 1 = l := by simp [rowsTo]
  refine (of_any (some ⟨w.heap.size, 0, none⟩) w.heap.size 0 1 1 (fun _ => A) (fun _ => n) (fun _ => C) (fun _ => l) (w.alloc (.cells #[.slice A n C] 24)) (by omega) (by omega) (by omega) (fun _ => rfl) (fun _ => hs) (fun i hi => by
    rw [show 0 + i = 0 by omega]; exact hc) (fun i hi => hr) (fun k hk => by
    rcases (show k = 0 ∨ k = 1 by omega) with rfl | rfl
    · simp [rowsTo]
    · rw [hl1, h.len]; omega)).mono fun e w' ⟨he, hb'⟩ => ?_
  rw [hl1] at he
  exact ⟨he, hb.trans (hb'.mono (by omega))⟩

theorem sha_len (l : List Int) : (sha l).length = 32 := dig_length _
/-- two sums are compared: the same -/
theorem sha_eq (l : List Int) (w : World) : (Op.equalIn 10000 27 (.agg (bv (sha l)).toArray) (.agg (bv (sha l)).toArray)).run Try.prog w = .ok true w := by
  rw [ids_eq _ _ (sha_len l) (sha_len l)]
  simp
end Go.Proofs.Ytgmcdkkjemjneaa.Sm
