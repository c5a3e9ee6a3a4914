/- The document's entry: what is wrong with one. -/
import Derived.Test.YtmcmapgllaopmaaCdCuId
namespace Go.Proofs.Ytmcmapgllaopmaa.Cd
open Go.RowKit
set_option linter.unusedVariables false

set_option maxRecDepth 100000 in
set_option maxHeartbeats 2000000 in
theorem rentry_any (s : ByteArray) (k : Int) (ids : List Int) (hids : ids.length = 32) (hs : s.size ≤ 140737488355327) (first : Bool) (last : ByteArray) (w : World) :
    Calls Try.prog 42 #[.agg (ent s k ids).toArray, .bool first, .string last] w fun e w' => e = .returned (.int .i64 (ce k s ids (if first = true then none else some last))) ∧ Below w.heap.size w w' := by
  have hcl := ent_cells s k ids
  have h0 := al_cell w (ent s k ids).toArray 87 0 (.string s) rfl
  have h1 := al_cell w (ent s k ids).toArray 87 1 (.int .i64 k) rfl
  have HR := Lib.hid (ent_range2 s k ids w 87)
  have HL := Lib.hid (show (Try.prog.info? 37).map (·.size) = some (bv ids).length by rw [bv, List.length_map, hids]; kernel_rfl)
  have HN := Lib.hid (fun W => rname_any s W (Nat.le_trans hs (by decide)))
  generalize hE : ent s k ids = E at *
  have HE := Lib.hid hE
  clear hE
  have HA := Lib.hid ((Below.refl w.heap.size w).alloc (Nat.le_refl _) (.cells E.toArray 87))
  by_cases hk : k < 1 ∨ 4 < k
  · have e1 : ce k s ids (if first = true then none else some last) = 3 := by unfold ce; rw [if_pos hk]
    rw [e1]
    clear e1
    rcases hk with hk | hk
    · go_enter Try.func42, Try.ntmps42
      go_wp2_with fail
      go_ret
      exact ⟨rfl, HA.out⟩
    · have hk2 : ¬ k < 1 := by omega
      go_enter Try.func42, Try.ntmps42
      go_wp2_with fail
      go_ret
      exact ⟨rfl, HA.out⟩
  · have hk1 : 1 ≤ k := by omega
    have hk4 : k ≤ 4 := by omega
    by_cases hnm : NmOk s
    · have hn1 : decide (NmOk s) = true := decide_eq_true hnm
      rw [hn1] at HN
      have hq : ∀ W, (Op.equalIn 10000 37 (.agg (bv ids).toArray) (.agg #[.int .u8 0, .int .u8 0, .int .u8 0, .int .u8 0, .int .u8 0, .int .u8 0, .int .u8 0, .int .u8 0, .int .u8 0, .int .u8 0, .int .u8 0, .int .u8 0, .int .u8 0, .int .u8 0, .int .u8 0, .int .u8 0, .int .u8 0, .int .u8 0, .int .u8 0, .int .u8 0, .int .u8 0, .int .u8 0, .int .u8 0, .int .u8 0, .int .u8 0, .int .u8 0, .int .u8 0, .int .u8 0, .int .u8 0, .int .u8 0, .int .u8 0, .int .u8 0])).run Try.prog W = .ok (decide (ids = List.replicate 32 0)) W := fun W => ids_none ids hids W
      by_cases hz : ids = List.replicate 32 0
      · have e1 : ce k s ids (if first = true then none else some last) = 1 := by unfold ce; rw [if_neg hk, if_neg (fun h => h hnm), if_pos hz]
        rw [e1]
        have hz2 : decide (ids = List.replicate 32 0) = true := decide_eq_true hz
        rw [hz2] at hq
        clear e1 hk hz hz2 hn1
        generalize bv ids = DI at *
        go_enter Try.func42, Try.ntmps42
        go_wp2_with fail
        refine (HN.out _).mono ?_
        rintro e w1 ⟨rfl, rfl⟩
        go_wp2_with (refine wpList_load_mid rfl _ _ rfl w.heap.size 2 rfl DI _ HR.out Try.underlying37 rfl HL.out ?_)
        go_ret
        exact ⟨rfl, HA.out⟩
      · have hz2 : decide (ids = List.replicate 32 0) = false := decide_eq_false hz
        rw [hz2] at hq
        cases first with
        | true =>
          have e1 : ce k s ids none = 0 := by unfold ce; rw [if_neg hk, if_neg (fun h => h hnm), if_neg hz]
          rw [if_pos rfl, e1]
          clear e1 hk hz hz2 hn1
          generalize bv ids = DI at *
          go_enter Try.func42, Try.ntmps42
          go_wp2_with fail
          refine (HN.out _).mono ?_
          rintro e w1 ⟨rfl, rfl⟩
          go_wp2_with (refine wpList_load_mid rfl _ _ rfl w.heap.size 2 rfl DI _ HR.out Try.underlying37 rfl HL.out ?_)
          go_ret
          exact ⟨rfl, HA.out⟩
        | false =>
          have e1 : ce k s ids (some last) = if leS s last = true then 18 else 0 := by unfold ce; rw [if_neg hk, if_neg (fun h => h hnm), if_neg hz]
          rw [if_neg (by decide), e1]
          have hle : (Op.bytesLess s.toList last.toList || s.toList == last.toList) = leS s last := rfl
          clear e1 hk hz hz2 hn1
          generalize bv ids = DI at *
          cases hB : leS s last
          · rw [hB] at hle
            clear hB
            go_enter Try.func42, Try.ntmps42
            go_wp2_with fail
            refine (HN.out _).mono ?_
            rintro e w1 ⟨rfl, rfl⟩
            go_wp2_with (refine wpList_load_mid rfl _ _ rfl w.heap.size 2 rfl DI _ HR.out Try.underlying37 rfl HL.out ?_)
            go_ret
            exact ⟨rfl, HA.out⟩
          · rw [hB] at hle
            clear hB
            go_enter Try.func42, Try.ntmps42
            go_wp2_with fail
            refine (HN.out _).mono ?_
            rintro e w1 ⟨rfl, rfl⟩
            go_wp2_with (refine wpList_load_mid rfl _ _ rfl w.heap.size 2 rfl DI _ HR.out Try.underlying37 rfl HL.out ?_)
            go_ret
            exact ⟨rfl, HA.out⟩
    · have e1 : ce k s ids (if first = true then none else some last) = 7 := by unfold ce; rw [if_neg hk, if_pos hnm]
      have hn1 : decide (NmOk s) = false := decide_eq_false hnm
      rw [hn1] at HN
      rw [e1]
      clear e1 hk
      go_enter Try.func42, Try.ntmps42
      go_wp2_with fail
      refine (HN.out _).mono ?_
      rintro e w1 ⟨rfl, rfl⟩
      go_wp2_with fail
      go_ret
      exact ⟨rfl, HA.out⟩

/-- the reader's error where the document's place was cut -/
def ff (c : Bool) : Int := if c = true then 14 else 0
theorem tkF_ff (c : Bool) (p n L : Nat) : tkF (ff c) p L n = ff (cuC c p n L) := by
  cases c with
  | true => unfold tkF; rw [if_neg (fun h => by simp [ff] at h)]; rfl
  | false =>
    unfold tkF cuC ff
    by_cases h : L - p < n
    · rw [if_pos ⟨rfl, h⟩]; simp [h]
    · rw [if_neg (fun h2 => h h2.2)]; simp [h]
theorem ff_zero (c : Bool) : (ff c = 0) = (¬ c = true) := by cases c <;> simp [ff]
theorem tkA_ff (c : Bool) (p n L : Nat) : tkA (ff c) p L n = cuP c p n L := by
  unfold tkA cuP
  rw [tkF_ff]
  cases cuC c p n L <;> simp [ff]
theorem tkL_ff (c : Bool) (l : List Int) (p n L : Nat) : tkL (ff c) l p L n = cuB c l p n L := by
  unfold tkL cuB
  rw [tkF_ff]
  cases cuC c p n L <;> simp [ff]
/-- what one entry's bytes say, in the document's words -/
theorem rd1_cu (l : List Int) (p L : Nat) : rd1 l p L = ⟨cuP (ctC (cuC false p 1 L) l (cuP false p 1 L) 1 L) (ctP (cuC false p 1 L) l (cuP false p 1 L) 1 L) 32 L, ff (cuC (ctC (cuC false p 1 L) l (cuP false p 1 L) 1 L) (ctP (cuC false p 1 L) l (cuP false p 1 L) 1 L) 32 L), nv (cuB false l p 1 L), sb (ctB (cuC false p 1 L) l (cuP false p 1 L) 1 L), idv (cuB (ctC (cuC false p 1 L) l (cuP false p 1 L) 1 L) l (ctP (cuC false p 1 L) l (cuP false p 1 L) 1 L) 32 L)⟩ := by
  have e0 : (0 : Int) = ff false := rfl
  unfold rd1 rdM ctC ctP ctB ctM
  simp only [e0, tkF_ff, tkA_ff, tkL_ff]
end Go.Proofs.Ytmcmapgllaopmaa.Cd
