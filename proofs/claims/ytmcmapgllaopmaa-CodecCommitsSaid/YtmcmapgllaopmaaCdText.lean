/- codec.text: a text behind a row. -/
import Derived.Test.YtmcmapgllaopmaaCdEnt
import Derived.Lib.AppendStr
namespace Go.Proofs.Ytmcmapgllaopmaa.Cd
open Go.RowKit
set_option linter.unusedVariables false

set_option maxHeartbeats 1000000 in
theorem text_any (B : Nat) (v : Value) (n : Nat) (xs : List Value) (s : ByteArray) (k : Nat) (w : World) (hB : B ≤ w.heap.size) (hown : w.ownsRow B 5 1 v n xs) (hn : n ≤ 140730000000000) (hs : s.size ≤ 1000000000) (hk : k ≤ 7) :
    Calls Try.prog 41 #[v, .string s, .int .i64 k] w (OwnRet B (n + k + s.size) (xs ++ (bv (be k s.size) ++ Lib.strCells s)) w) := by
  obtain ⟨i0, hi, hz0, hz1, hz2⟩ := info_parts info5
  have hmx : (140737488355328 : Nat) ≤ maxLen := by unfold maxLen; omega
  have HO := Lib.hid hown

  clear hown
  go_enter Try.func41, Try.ntmps41
  go_wp2_with fail
  refine (number_any B v n xs s.size k w hB HO.out (by omega) (by omega) (by omega) hk).mono ?_
  rintro e w1 ⟨v1, rfl, ho1, hb1⟩
  have HB1 := Lib.hid hb1
  have HO1 := Lib.hid ho1
  have hsz := hb1.size
  clear ho1 hb1
  go_wp2_with (at_builtin; refine Lib.wpList_append_own_string _ rfl _ _ _ _ rfl B 5 i0 Try.underlying23 Try.underlying9 hi hz0 hz1 hz2 _ _ _ rfl HO1.out s rfl (by omega) (by omega) (by omega) ?_)
  intro v' w' ho hg hv
  have HB' := Lib.hid (HB1.out.trans (below_grown (by omega) HO1.out hg))
  have HO' := Lib.hid ho
  clear ho hg hv
  go_wp2
  go_ret
  exact ⟨_, rfl, HO'.out, HB'.out⟩
end Go.Proofs.Ytmcmapgllaopmaa.Cd
