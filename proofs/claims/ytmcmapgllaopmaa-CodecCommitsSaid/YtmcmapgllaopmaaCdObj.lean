/- check and EncodeObj at any object. -/
import Derived.Test.YtmcmapgllaopmaaCdPc
namespace Go.Proofs.Ytmcmapgllaopmaa.Cd
open Go.RowKit
set_option linter.unusedVariables false

/-- why an object may not be, and its letter -/
def ckE (k : Int) (l : List Int) (L : Nat) : Int := if k = 1 then (if 65536 < L then 5 else 0) else if k = 2 then (pT l L (L + 1) 0 []).1 else if k = 3 then cF7 0 l 0 L else 3
def ckL (k : Int) (l : List Int) (L : Nat) : Int := if k = 1 then (if 65536 < L then 0 else 98) else if k = 2 then 116 else if k = 3 then 99 else 0

theorem ret2 {a b c d : Value} (h : a = c) (h' : b = d) : Ending.returned (.tuple #[a, b]) = .returned (.tuple #[c, d]) := by rw [h, h']

set_option maxRecDepth 100000 in
set_option maxHeartbeats 1000000 in
theorem ck_any (k : Int) (A : Option Addr) (L C : Nat) (l : List Int) (w : World) (h : RdB w A L C l) :
    Calls Try.prog 57 #[.agg #[.int .i64 k, .slice A L C]] w fun e w' => e = .returned (.tuple #[.int .u8 (ckL k l L), .int .i64 (ckE k l L)]) ∧ Below w.heap.size w w' := by
  have hB0 := (Below.refl w.heap.size w).alloc (Nat.le_refl _) (.cells #[.int .i64 k, .slice A L C] 50)
  have HRd := Lib.hid (h.below hB0)
  have HB0 := Lib.hid hB0
  have hs := al_lt w (.cells #[.int .i64 k, .slice A L C] 50)
  have hc0 := al_cell w #[.int .i64 k, .slice A L C] 50 0 _ rfl
  have hc1 := al_cell w #[.int .i64 k, .slice A L C] 50 1 _ rfl
  have hcap := h.cap
  have hmax := h.max
  have hbig := h.big
  clear h hB0
  by_cases h1 : k = 1
  · subst h1
    by_cases h2 : 65536 < L
    · have HE : Hid (ckE 1 l L = 5 ∧ ckL 1 l L = 0) := Lib.hid ⟨by unfold ckE; rw [if_pos rfl, if_pos h2], by unfold ckL; rw [if_pos rfl, if_pos h2]⟩
      have hd : decide ((65536 : Int) < (L : Int)) = true := by simp; omega
      go_enter Try.func57, Try.ntmps57
      go_wp2_with fail
      go_ret2
      rw [HE.out.1, HE.out.2]
      exact ⟨rfl, HB0.out⟩
    · have HE : Hid (ckE 1 l L = 0 ∧ ckL 1 l L = 98) := Lib.hid ⟨by unfold ckE; rw [if_pos rfl, if_neg h2], by unfold ckL; rw [if_pos rfl, if_neg h2]⟩
      have hd : decide ((65536 : Int) < (L : Int)) = false := by simp; omega
      go_enter Try.func57, Try.ntmps57
      go_wp2_with fail
      go_ret2
      rw [HE.out.1, HE.out.2]
      exact ⟨rfl, HB0.out⟩
  · by_cases h2 : k = 2
    · subst h2
      have HE : Hid (ckE 2 l L = (pT l L (L + 1) 0 []).1 ∧ ckL 2 l L = 116) := Lib.hid ⟨rfl, rfl⟩
      have HP := Lib.hid (parseTree_any A L C l _ HRd.out)
      go_enter Try.func57, Try.ntmps57
      go_wp2_with fail
      refine HP.out.mono ?_
      rintro e w1 ⟨hb, hr⟩
      have HB1 := Lib.hid (HB0.out.trans (hb.mono (Nat.le_of_lt hs)))
      rcases hr with ⟨-, rfl⟩ | ⟨hp, -, Ae, Ce, rfl, -⟩
      · clear hb HP
        go_wp2_with fail
        go_ret2
        rw [HE.out.1, HE.out.2]
        exact ⟨rfl, HB1.out⟩
      · have HP0 := Lib.hid hp
        clear hb HP hp
        go_wp2_with fail
        go_ret2
        rw [HE.out.1, HE.out.2, HP0.out]
        exact ⟨rfl, HB1.out⟩
    · by_cases h3 : k = 3
      · subst h3
        have HE : Hid (ckE 3 l L = cF7 0 l 0 L ∧ ckL 3 l L = 99) := Lib.hid ⟨rfl, rfl⟩
        have HP := Lib.hid (parseCommit_any A L C l _ HRd.out)
        have hz : ∀ w : World, (zeroValue 40).run Try.prog w = .ok (.agg cm0.toArray) w := zeroCm
        have HZl : Hid (cm0.toArray.size = 36) := Lib.hid (by rw [List.size_toArray, cm0_len])
        generalize hZC : cm0.toArray = ZC at *
        have HZC := Lib.hid hZC
        clear hZC
        go_enter Try.func57, Try.ntmps57
        go_wp2_with fail
        refine HP.out.mono ?_
        rintro e w1 ⟨hb, hr⟩
        have HB1 := Lib.hid (HB0.out.trans (hb.mono (Nat.le_of_lt hs)))
        have hs1 : w.heap.size ≤ w1.heap.size := HB1.out.size
        have hxr := row_new w1 ZC 40
        rw [HZl.out] at hxr
        have hb4 := HB1.out.alloc hs1 (.cells ZC 40)
        rcases hr with ⟨-, rfl⟩ | ⟨hp, -, Ai, Ci, rfl, -⟩
        · have HFx := Lib.hid (Fin.mk' cm0_len cm0_one hxr hb4 hs1)
          clear hb HP hxr hb4
          go_wp2_with (refine wpList_store_mid rfl _ _ _ rfl w1.heap.size 0 cm0.toArray rfl rfl HFx.out.there HFx.out.size HFx.out.one ?_)
          go_ret2
          rw [HE.out.1, HE.out.2]
          exact ⟨rfl, HFx.out.bel⟩
        · have hcl : (cm (cT 0 l 0 L) (.slice Ai (cQ 0 l 0 L).2.2.length Ci) (cAu 0 l 0 L) (tv (cB 0 l 0 L)) (cMs 0 l 0 L)).length = 36 := cm_len _ _ _ _ _ (by
            unfold cT
            refine idv_len _ ?_
            unfold tkL
            split
            · rw [List.length_take]; omega
            · simp)
          have hco := cm_one (cT 0 l 0 L) (.slice Ai (cQ 0 l 0 L).2.2.length Ci) (cAu 0 l 0 L) (tv (cB 0 l 0 L)) (cMs 0 l 0 L) rfl
          generalize hCM : cm (cT 0 l 0 L) (.slice Ai (cQ 0 l 0 L).2.2.length Ci) (cAu 0 l 0 L) (tv (cB 0 l 0 L)) (cMs 0 l 0 L) = CM at *
          have HFx := Lib.hid (Fin.mk' hcl hco hxr hb4 hs1)
          have HP0 := Lib.hid hp
          clear hb HP hxr hb4 hCM hp hcl hco
          go_wp2_with (refine wpList_store_mid rfl _ _ _ rfl w1.heap.size 0 CM.toArray rfl rfl HFx.out.there HFx.out.size HFx.out.one ?_)
          go_ret2
          rw [HE.out.1, HE.out.2, HP0.out]
          exact ⟨rfl, HFx.out.bel⟩
      · have HE : Hid (ckE k l L = 3 ∧ ckL k l L = 0) := Lib.hid ⟨by unfold ckE; rw [if_neg h1, if_neg h2, if_neg h3], by unfold ckL; rw [if_neg h1, if_neg h2, if_neg h3]⟩
        have d1 : (k == 1) = false := by simp [h1]
        have d2 : (k == 2) = false := by simp [h2]
        have d3 : (k == 3) = false := by simp [h3]
        clear h1 h2 h3
        go_enter Try.func57, Try.ntmps57
        go_wp2_with fail
        go_ret2
        rw [HE.out.1, HE.out.2]
        exact ⟨rfl, HB0.out⟩

/-- what EncodeObj hands back -/
def EoRet (k : Int) (l : List Int) (L : Nat) (w : World) (e : Ending) (w' : World) : Prop :=
  Below w.heap.size w w' ∧
  ((ckE k l L ≠ 0 ∧ e = .returned (.tuple #[.slice none 0 0, .int .i64 (ckE k l L)])) ∨
   (ckE k l L = 0 ∧ ∃ A' C', e = .returned (.tuple #[.slice A' (5 + L) C', .int .i64 0]) ∧ w'.ownsRow w.heap.size 5 1 (.slice A' (5 + L) C') (5 + L) (bv (ckL k l L :: be 4 (L : Int) ++ l))))

theorem ckL_byte (k : Int) (l : List Int) (L : Nat) : 0 ≤ ckL k l L ∧ ckL k l L ≤ 255 := by
  unfold ckL
  split
  · split <;> omega
  · split
    · omega
    · split <;> omega

set_option maxRecDepth 100000 in
set_option maxHeartbeats 1000000 in
theorem encodeObj_any (k : Int) (A : Option Addr) (L C : Nat) (l : List Int) (w : World) (h : RdB w A L C l) (hL : L ≤ 140737488000000) :
    Calls Try.prog 22 #[.agg #[.int .i64 k, .slice A L C]] w (EoRet k l L w) := by
  have hB0 := (Below.refl w.heap.size w).alloc (Nat.le_refl _) (.cells #[.int .i64 k, .slice A L C] 50)
  have HRd := Lib.hid (h.below hB0)
  have HCk := Lib.hid (ck_any k A L C l _ (h.below hB0))
  have HB0 := Lib.hid hB0
  have hs := al_lt w (.cells #[.int .i64 k, .slice A L C] 50)
  have hc1 := al_cell w #[.int .i64 k, .slice A L C] 50 1 _ rfl
  have hcap := h.cap
  have hmax := h.max
  have hby := ckL_byte k l L
  have hb0 := hby.1
  have hb1 := hby.2
  clear h hB0 hby
  obtain ⟨E, hE⟩ : ∃ E, E = ckE k l L := ⟨_, rfl⟩
  obtain ⟨T, hT⟩ : ∃ T, T = ckL k l L := ⟨_, rfl⟩
  rw [← hT] at hb0 hb1
  rw [← hE, ← hT] at HCk
  have HE := Lib.hid hE
  have HT := Lib.hid hT
  clear hE hT
  have h0c := al_cell w #[.int .i64 k, .slice A L C] 50 0 _ rfl
  go_enter Try.func22, Try.ntmps22
  go_wp2_with fail
  refine HCk.out.mono ?_
  rintro e w1 ⟨rfl, hb⟩
  have HB1 := Lib.hid (HB0.out.trans (hb.mono (Nat.le_of_lt hs)))
  have HRd1 := Lib.hid (HRd.out.below hb)
  have hc1' : w1.cell? ⟨w.heap.size, 1, none⟩ = some (.slice A L C) := (hb.cell (p := ⟨w.heap.size, 1, none⟩) hs).trans hc1
  have hs1 : w.heap.size < w1.heap.size := Nat.lt_of_lt_of_le hs hb.size
  clear hb HCk HRd hc1 h0c HB0 hs
  by_cases h0 : E = 0
  · have hd : (E != 0) = false := by simp [h0]
    have hca : ∀ o, (w1.alloc o).cell? ⟨w.heap.size, 1, none⟩ = some (.slice A L C) := al_keep hc1'
    have H0 := Lib.hid (HE.out.symm.trans h0)
    clear h0
    go_wp2_with fail
    refine (number_any w1.heap.size _ 1 (bv [T]) L 4 _ (al_le w1 _) (own_lit w1 [T] (by unfold maxLen; simp)) (by omega) (by omega) (by omega) (by omega)).mono ?_
    rintro e w2 ⟨v2, rfl, ho, hb2⟩
    have hb3 := ((Below.refl w1.heap.size w1).alloc (Nat.le_refl _) (.cells (bv [T]).toArray 5)).trans hb2
    have HB2 := Lib.hid (HB1.out.trans (hb3.mono (Nat.le_of_lt hs1)))
    have HRd2 := Lib.hid (HRd1.out.below hb3)
    have hc3 : w2.cell? ⟨w.heap.size, 1, none⟩ = some (.slice A L C) := (hb3.cell (p := ⟨w.heap.size, 1, none⟩) hs1).trans hc1'
    have HO : Hid (w2.ownsRow w1.heap.size 5 1 v2 5 (bv (T :: be 4 (L : Int)))) := Lib.hid (by
      rw [show bv (T :: be 4 (L : Int)) = bv [T] ++ bv (be 4 (L : Int)) by simp [bv]]; exact ho)
    have hs2 : w1.heap.size ≤ w2.heap.size := hb3.size
    obtain ⟨A2, C2, rfl⟩ := own_slice' HO.out
    clear hb2 hb3 ho hca hc1' HRd1 HB1
    go_wp2_with (refine wpList_append_rd w2 rfl _ _ rfl w1.heap.size (.slice A2 5 C2) 5 (T :: be 4 (L : Int)) rfl HO.out A L C l rfl HRd2.out (by omega) hs2 ?_)
    intro A' C' w3 ho hb
    have HO3 := Lib.hid ho
    have HB3 := Lib.hid (HB2.out.trans (hb.mono (Nat.le_of_lt hs1)))
    clear ho hb
    go_wp2_with fail
    go_ret2
    refine ⟨HB3.out, .inr ⟨H0.out, A', C', rfl, ?_⟩⟩
    rw [← HT.out]
    exact own_base HO3.out (Nat.le_of_lt hs1)
  · have hd : (E != 0) = true := by simp [h0]
    have H0 : Hid (ckE k l L ≠ 0) := Lib.hid (fun e => h0 (HE.out.trans e))
    clear h0
    go_wp2_with fail
    go_ret2
    exact ⟨HB1.out, .inl ⟨H0.out, by rw [← HE.out]; rfl⟩⟩
end Go.Proofs.Ytmcmapgllaopmaa.Cd
