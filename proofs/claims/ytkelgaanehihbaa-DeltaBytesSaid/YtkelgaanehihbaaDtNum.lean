/- delta.number and delta.copied: bytes behind a row of the call's own. -/
import Derived.Test.YtkelgaanehihbaaDtKit
import Derived.OwnWalk
namespace Go.Proofs.Ytkelgaanehihbaa.Dt
open Go.RowKit
set_option linter.unusedVariables false

theorem info5 : (Try.prog.info? 5).map (fun i => (i.zero, i.size, i.bytes)) = some (some (.int .u8 0), 1, 1) := by kernel_rfl

/-- the call hands back a row of its own that holds xs; nothing below B turned -/
def OwnRet (B n : Nat) (xs : List Value) (w : World) (e : Ending) (w' : World) : Prop :=
  ∃ v', e = .returned v' ∧ w'.ownsRow B 5 1 v' n xs ∧ v' ≠ .slice none 0 0 ∧ Below B w w'

def bv (l : List Int) : List Value := l.map (Value.int .u8)

/-- a number's four bytes -/
def nb (x : Int) : List Int := [x / 16777216 % 256, x / 65536 % 256, x / 256 % 256, x % 256]

theorem below_grown {B : Nat} {w w' : World} {v : Value} {n : Nat} {xs : List Value} (hB : B ≤ w.heap.size) (hown : w.ownsRow B 5 1 v n xs) (hg : w.grownBy w' v.ownBlock) : Below B w w' :=
  (Below.refl B w).grown hg hB (fun k hk => by
    rcases hown.2 with ⟨h, _⟩ | ⟨g', cap', cur, h, hge, _⟩
    · rw [h] at hk; simp [Value.ownBlock] at hk
    · rw [h] at hk; simp [Value.ownBlock] at hk; omega)

theorem new_cells (l : List Int) (w : World) (e : TypeId) : ∀ j u, (bv l)[j]? = some u → (w.alloc (.cells (bv l).toArray e)).cell? (Addr.add ⟨w.heap.size, 0, none⟩ j) = some u := by
  intro j u hj
  rw [show Addr.add ⟨w.heap.size, 0, none⟩ j = (⟨w.heap.size, j, none⟩ : Addr) from by simp [Addr.add]; omega, World.cell?_alloc_new]
  simpa using hj

theorem bv_one (l : List Int) : ∀ u ∈ bv l, u.oneCell' = true := by
  intro u hu
  obtain ⟨x, _, rfl⟩ := List.mem_map.1 hu
  rfl

set_option maxHeartbeats 1000000 in
theorem number_any (B : Nat) (v : Value) (n : Nat) (xs : List Value) (x : Int) (w : World) (hB : B ≤ w.heap.size) (hown : w.ownsRow B 5 1 v n xs) (hn : n ≤ 140737488300000) (h0 : 0 ≤ x) (h1 : x ≤ 140737488355328) :
    Calls Try.prog 18 #[v, .int .i64 x] w (OwnRet B (n + 4) (xs ++ bv (nb x)) w) := by
  obtain ⟨i0, hi, hz0, hz1, hz2⟩ := info_parts info5
  have HO := Lib.hid hown
  clear hown
  go_enter Try.func18, Try.ntmps18
  go_wp2_with (at_builtin; refine wpList_append_own _ rfl _ _ 22 rfl B 5 i0 (.int .u8 0) 1 1 Try.underlying22 hi hz0 hz1 hz2 rfl (by decide) v n xs rfl (HO.out.alloc _) ⟨w.heap.size, 0, none⟩ 4 4 (bv (nb x)) rfl rfl ?c1 (bv_one _) ?c3 ?c4 ?c5 ?_)
  case c1 =>
    exact new_cells (nb x) w _
  case c3 => unfold maxLen; omega
  case c4 => omega
  case c5 => simp; omega
  intro v' w1 hown' hgrow hnil
  go_wp2
  go_ret
  refine ⟨v', rfl, hown', ?_, ?_⟩
  · first | exact hnil | exact fun h => absurd (hnil.1 h).2 (by decide)
  · exact ((Below.refl B w).alloc hB _).trans (below_grown (by simp; omega) (HO.out.alloc _) hgrow)

set_option maxHeartbeats 1000000 in
theorem copied_any (B : Nat) (v : Value) (n : Nat) (xs : List Value) (x y : Int) (w : World) (hB : B ≤ w.heap.size) (hown : w.ownsRow B 5 1 v n xs) (hn : n ≤ 140737488200000) (h0 : 0 ≤ x) (h1 : x ≤ 140737488355328) (h2 : 0 ≤ y) (h3 : y ≤ 140737488355328) :
    Calls Try.prog 19 #[v, .int .i64 x, .int .i64 y] w (OwnRet B (n + 9) (xs ++ bv (1 :: nb x ++ nb y)) w) := by
  obtain ⟨i0, hi, hz0, hz1, hz2⟩ := info_parts info5
  have HO := Lib.hid hown
  clear hown
  go_enter Try.func19, Try.ntmps19
  go_wp2_with (at_builtin; refine wpList_append_own _ rfl _ _ 22 rfl B 5 i0 (.int .u8 0) 1 1 Try.underlying22 hi hz0 hz1 hz2 rfl (by decide) v n xs rfl (HO.out.alloc _) ⟨w.heap.size, 0, none⟩ 1 1 (bv [1]) rfl rfl ?c1 (bv_one _) ?c3 ?c4 ?c5 ?_)
  case c1 =>
    exact new_cells [1] w _
  case c3 => unfold maxLen; omega
  case c4 => omega
  case c5 => simp; omega
  intro v1 w1 hown1 hgrow hnil
  have HB1 := Lib.hid (((Below.refl B w).alloc hB _).trans (below_grown (by simp; omega) (HO.out.alloc _) hgrow))
  have HO1 := Lib.hid hown1
  clear hown1 hgrow hnil
  go_wp2_with fail
  refine (number_any B v1 (n + 1) (xs ++ bv [1]) x w1 (by have := HB1.out.size; omega) HO1.out (by omega) h0 h1).mono ?_
  rintro e w2 ⟨v2, rfl, hown2, hne2, hb2⟩
  have HB2 := Lib.hid (HB1.out.trans hb2)
  have HO2 := Lib.hid hown2
  clear hown2 hb2 hne2 HO1 HB1
  go_wp2_with fail
  refine (number_any B v2 (n + 1 + 4) _ y w2 (by have := HB2.out.size; omega) HO2.out (by omega) h2 h3).mono ?_
  rintro e w3 ⟨v3, rfl, hown3, hne3, hb3⟩
  have HB3 := Lib.hid (HB2.out.trans hb3)
  have HO3 := Lib.hid hown3
  have HN3 := Lib.hid hne3
  clear hown3 hb3 HO2 HB2 hne3
  go_wp2
  go_ret
  refine ⟨v3, rfl, ?_, HN3.out, HB3.out⟩
  have := HO3.out
  simpa [bv, Nat.add_assoc] using this
end Go.Proofs.Ytkelgaanehihbaa.Dt
