/- checkEntry at any entry. -/
import Derived.Test.YtmcmapgllaopmaaCdRd
namespace Go.Proofs.Ytmcmapgllaopmaa.Cd
open Go.RowKit
set_option linter.unusedVariables false

/-- is a text at or ahead of another one? -/
def leS (a b : ByteArray) : Bool := Op.bytesLess a.toList b.toList || a.toList == b.toList
/-- why an entry may not stand behind one ahead -/
def ce (k : Int) (nm : ByteArray) (ids : List Int) (prev : Option ByteArray) : Int :=
  if k < 1 ∨ 4 < k then 3 else if ¬ NmOk nm then 7 else if ids = List.replicate 32 0 then 1 else match prev with
    | some q => if leS nm q = true then 18 else 0
    | none => 0

/-- what lies ahead: its last name -/
structure Ahd (w : World) (A : Option Addr) (n C : Nat) (prev : Option ByteArray) : Prop where
  cap : n ≤ C
  max : C ≤ 9223372036854775807
  big : n ≤ 1000000
  none : n = 0 → prev = none
  last : 0 < n → ∃ g o q, A = some ⟨g, o, Option.none⟩ ∧ prev = some q ∧ w.cell? ⟨g, o + (n - 1) * 34, Option.none⟩ = some (.string q) ∧ g < w.heap.size

set_option maxRecDepth 100000 in
set_option maxHeartbeats 2000000 in
theorem check_any (s : ByteArray) (k : Int) (ids : List Int) (hids : ids.length = 32) (hs : s.size ≤ 140737488355327) (A : Option Addr) (n C : Nat) (prev : Option ByteArray) (w : World) (h : Ahd w A n C prev) :
    Calls Try.prog 40 #[.agg (ent s k ids).toArray, .slice A n C] w fun e w' => e = .returned (.int .i64 (ce k s ids prev)) ∧ Below w.heap.size w w' := by
  have hcl := ent_cells s k ids
  have h0 := al_cell w (ent s k ids).toArray 87 0 (.string s) rfl
  have h1 := al_cell w (ent s k ids).toArray 87 1 (.int .i64 k) rfl
  have HR := Lib.hid (ent_range2 s k ids w 87)
  have HL := Lib.hid (show (Try.prog.info? 37).map (·.size) = some (bv ids).length by rw [bv, List.length_map, hids]; kernel_rfl)
  have HN := Lib.hid (fun W => name_any s W (Nat.le_trans hs (by decide)))
  generalize hE : ent s k ids = E at *
  have HE := Lib.hid hE
  clear hE
  have HA := Lib.hid ((Below.refl w.heap.size w).alloc (Nat.le_refl _) (.cells E.toArray 87))
  by_cases hk : k < 1 ∨ 4 < k
  · have e1 : ce k s ids prev = 3 := by unfold ce; rw [if_pos hk]
    rw [e1]
    clear e1
    rcases hk with hk | hk
    · go_enter Try.func40, Try.ntmps40
      go_wp2_with fail
      go_ret
      exact ⟨rfl, HA.out⟩
    · have hk2 : ¬ k < 1 := by omega
      go_enter Try.func40, Try.ntmps40
      go_wp2_with fail
      go_ret
      exact ⟨rfl, HA.out⟩
  · have hk1 : 1 ≤ k := by omega
    have hk4 : k ≤ 4 := by omega
    by_cases hnm : NmOk s
    · have hn1 : decide (NmOk s) = true := decide_eq_true hnm
      rw [hn1] at HN
      have hq : ∀ W, (Op.equalIn 10000 37 (.agg (bv ids).toArray) (.agg #[.int .u8 0, .int .u8 0, .int .u8 0, .int .u8 0, .int .u8 0, .int .u8 0, .int .u8 0, .int .u8 0, .int .u8 0, .int .u8 0, .int .u8 0, .int .u8 0, .int .u8 0, .int .u8 0, .int .u8 0, .int .u8 0, .int .u8 0, .int .u8 0, .int .u8 0, .int .u8 0, .int .u8 0, .int .u8 0, .int .u8 0, .int .u8 0, .int .u8 0, .int .u8 0, .int .u8 0, .int .u8 0, .int .u8 0, .int .u8 0, .int .u8 0, .int .u8 0])).run Try.prog W = .ok (decide (ids = List.replicate 32 0)) W := fun W => ids_none ids hids W
      by_cases hz : ids = List.replicate 32 0
      · have e1 : ce k s ids prev = 1 := by unfold ce; rw [if_neg hk, if_neg (fun h => h hnm), if_pos hz]
        rw [e1]
        have hz2 : decide (ids = List.replicate 32 0) = true := decide_eq_true hz
        rw [hz2] at hq
        clear e1 hk hz hz2 hn1
        generalize bv ids = DI at *
        go_enter Try.func40, Try.ntmps40
        go_wp2_with fail
        refine (HN.out _).mono ?_
        rintro e w1 ⟨rfl, rfl⟩
        go_wp2_with (refine wpList_load_mid rfl _ _ rfl w.heap.size 2 rfl DI _ HR.out Try.underlying37 rfl HL.out ?_)
        go_ret
        exact ⟨rfl, HA.out⟩
      · have hz2 : decide (ids = List.replicate 32 0) = false := decide_eq_false hz
        rw [hz2] at hq
        by_cases hn0 : n = 0
        · have e1 : ce k s ids prev = 0 := by unfold ce; rw [if_neg hk, if_neg (fun h => h hnm), if_neg hz, h.none hn0]
          rw [e1]
          subst hn0
          clear e1 hk hz hz2 hn1
          generalize bv ids = DI at *
          go_enter Try.func40, Try.ntmps40
          go_wp2_with fail
          refine (HN.out _).mono ?_
          rintro e w1 ⟨rfl, rfl⟩
          go_wp2_with (refine wpList_load_mid rfl _ _ rfl w.heap.size 2 rfl DI _ HR.out Try.underlying37 rfl HL.out ?_)
          go_quiet (fail)
          go_wp2
          go_ret
          exact ⟨rfl, below_drewN HA.out _⟩
        · obtain ⟨g, o, q, rfl, hp, hc, hg⟩ := h.last (by omega)
          obtain ⟨p, hpn⟩ : ∃ p, p + 1 = n := ⟨n - 1, by omega⟩
          have hcap := h.cap
          have hmax := h.max
          have hbig := h.big
          have e1 : ce k s ids prev = if leS s q = true then 18 else 0 := by unfold ce; rw [if_neg hk, if_neg (fun h => h hnm), if_neg hz, hp]
          rw [e1]
          have hc2 : (w.alloc (.cells E.toArray 87)).cell? ⟨g, o + p * 34, none⟩ = some (.string q) := by
            have h5 := al_keep hc (.cells E.toArray 87)
            rw [show n - 1 = p by omega] at h5
            exact h5
          have i1 : (n : Int) - 1 = (p : Int) := by omega
          have wp : IntKind.i64.wrap (p : Int) = (p : Int) := IntWalk.i64_in _ (by omega)
          have p0 : (0 : Int) ≤ (p : Int) := by omega
          have p1 : (p : Int) < (n : Int) := by omega
          have hnp : 0 < n := by omega
          have hd : decide (0 < n) = true := decide_eq_true hnp
          have hle : (Op.bytesLess s.toList q.toList || s.toList == q.toList) = leS s q := rfl
          clear e1 hk hz hz2 hn1 hpn hp hc hn0 h
          generalize bv ids = DI at *
          cases hB : leS s q
          · rw [hB] at hle
            clear hB
            go_enter Try.func40, Try.ntmps40
            go_wp2_with fail
            refine (HN.out _).mono ?_
            rintro e w1 ⟨rfl, rfl⟩
            go_wp2_with (refine wpList_load_mid rfl _ _ rfl w.heap.size 2 rfl DI _ HR.out Try.underlying37 rfl HL.out ?_)
            go_quiet (fail)
            go_wp2
            go_ret
            exact ⟨rfl, below_drewN HA.out _⟩
          · rw [hB] at hle
            clear hB
            go_enter Try.func40, Try.ntmps40
            go_wp2_with fail
            refine (HN.out _).mono ?_
            rintro e w1 ⟨rfl, rfl⟩
            go_wp2_with (refine wpList_load_mid rfl _ _ rfl w.heap.size 2 rfl DI _ HR.out Try.underlying37 rfl HL.out ?_)
            go_quiet (fail)
            go_wp2
            go_ret
            exact ⟨rfl, below_drewN HA.out _⟩
    · have e1 : ce k s ids prev = 7 := by unfold ce; rw [if_neg hk, if_pos hnm]
      have hn1 : decide (NmOk s) = false := decide_eq_false hnm
      rw [hn1] at HN
      rw [e1]
      clear e1 hk
      go_enter Try.func40, Try.ntmps40
      go_wp2_with fail
      refine (HN.out _).mono ?_
      rintro e w1 ⟨rfl, rfl⟩
      go_wp2_with fail
      go_ret
      exact ⟨rfl, HA.out⟩
end Go.Proofs.Ytmcmapgllaopmaa.Cd
