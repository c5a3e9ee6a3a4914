/- reader.text and reader.end. -/
import Derived.Test.YtmcmapgllaopmaaCdParse
namespace Go.Proofs.Ytmcmapgllaopmaa.Cd
open Go.RowKit
set_option linter.unusedVariables false

/-- the length told -/
def txM (f : Int) (l : List Int) (at' L n : Nat) : Nat := (nv (tkL f l at' L n)).toNat
/-- what failed when the length is known -/
def tx2 (f : Int) (l : List Int) (at' L n most : Nat) : Int := if most < txM f l at' L n then fl (tkF f at' L n) 5 else tkF f at' L n
def txF (f : Int) (l : List Int) (at' L n most : Nat) : Int := tkF (tx2 f l at' L n most) (tkA f at' L n) L (txM f l at' L n)
def txA (f : Int) (l : List Int) (at' L n most : Nat) : Nat := tkA (tx2 f l at' L n most) (tkA f at' L n) L (txM f l at' L n)
def txS (f : Int) (l : List Int) (at' L n most : Nat) : ByteArray := sb (tkL (tx2 f l at' L n most) l (tkA f at' L n) L (txM f l at' L n))

/-- the text told, and the reader behind -/
def TxtRet (R N : Nat) (t : TypeId) (A : Option Addr) (L C : Nat) (l : List Int) (at' : Nat) (f : Int) (E : Nat → Value) (n most : Nat) (w : World) (e : Ending) (w' : World) : Prop :=
  e = .returned (.string (txS f l at' L n most)) ∧ Rdr w' R N t A L C l (txA f l at' L n most) (txF f l at' L n most) E ∧ w.grownBy w' (some R)

theorem nv_tkL (f : Int) (l : List Int) (at' L n : Nat) (hn : n < 4) (hl : l.length = L) (hb : ∀ i, i < L → 0 ≤ l.getD i 0 ∧ l.getD i 0 ≤ 255) : 0 ≤ nv (tkL f l at' L n) ∧ nv (tkL f l at' L n) < 16777216 := by
  unfold tkL
  split
  · refine nv_small _ n hn (by rw [List.length_take]; omega) (fun i hi => ?_)
    rw [List.length_take, List.length_drop] at hi
    rw [take_getD _ _ _ (by omega)]
    have := hb (at' + i) (by omega)
    simpa [List.getD] using this
  · exact ⟨by decide, by decide⟩

set_option maxRecDepth 100000 in
theorem text_r (R N : Nat) (t : TypeId) (A : Option Addr) (L C : Nat) (l : List Int) (at' : Nat) (f : Int) (E : Nat → Value) (n most : Nat) (w : World) (h : Rdr w R N t A L C l at' f E) (hn : n < 4) :
    Calls Try.prog 89 #[.pointer (some ⟨R, 0, none⟩), .int .i64 n, .int .i64 most] w (TxtRet R N t A L C l at' f E n most w) := by
  have HNu := Lib.hid (number_r R N t A L C l at' f E n w h (by omega))
  obtain ⟨b0, b1⟩ := nv_tkL f l at' L n hn h.rd.len h.rd.byte
  have hm : nv (tkL f l at' L n) = ((txM f l at' L n : Nat) : Int) := by unfold txM; omega
  have hmb : txM f l at' L n < 16777216 := by omega
  rw [hm] at HNu
  clear hm b0 b1 h
  obtain ⟨m, hM⟩ : ∃ m, m = txM f l at' L n := ⟨_, rfl⟩
  rw [← hM] at HNu hmb
  have HM := Lib.hid hM
  clear hM
  go_enter Try.func89, Try.ntmps89
  go_wp2_with fail
  refine HNu.out.mono ?_
  rintro e w1 ⟨rfl, hR, hg⟩
  by_cases hl : most < m
  · have hd : most < m := hl
    have HFm := Lib.hid (fail_any R N t A L C l _ _ 5 _ w1 hR)
    have HG := Lib.hid hg
    have H2 : Hid (tx2 f l at' L n most = fl (tkF f at' L n) 5) := Lib.hid (by unfold tx2; rw [← HM.out, if_pos hl])
    clear hR hg HNu hl
    go_wp2_with fail
    refine HFm.out.mono ?_
    rintro e w2 ⟨rfl, hR2, hg2⟩
    have HT := Lib.hid (take_any R N t A L C l _ _ _ m w2 hR2 (by omega))
    have HG2 := Lib.hid (grown_trans HG.out hg2)
    clear hR2 hg2 HG HFm
    go_wp2_with fail
    refine HT.out.mono ?_
    rintro e w3 ⟨A', C', rfl, hrd, -, hR3, hg3⟩
    have cv := conv_rd hrd
    have HR3 := Lib.hid hR3
    have HG3 := Lib.hid (grown_trans HG2.out hg3)
    clear hrd hR3 hg3 HT HG2
    go_wp2_with fail
    go_ret
    unfold TxtRet txS txA txF
    rw [H2.out, ← HM.out]
    exact ⟨rfl, HR3.out, HG3.out⟩
  · have hd : ¬ most < m := hl
    have HG := Lib.hid hg
    have H2 : Hid (tx2 f l at' L n most = tkF f at' L n) := Lib.hid (by unfold tx2; rw [← HM.out, if_neg hl])
    have HT := Lib.hid (take_any R N t A L C l _ _ _ m w1 hR (by omega))
    clear hR hg HNu hl
    go_wp2_with fail
    refine HT.out.mono ?_
    rintro e w3 ⟨A', C', rfl, hrd, -, hR3, hg3⟩
    have cv := conv_rd hrd
    have HR3 := Lib.hid hR3
    have HG3 := Lib.hid (grown_trans HG.out hg3)
    clear hrd hR3 hg3 HT HG
    go_wp2_with fail
    go_ret
    unfold TxtRet txS txA txF
    rw [H2.out, ← HM.out]
    exact ⟨rfl, HR3.out, HG3.out⟩

/-- what failed when nothing may be left -/
def enF (f : Int) (at' L : Nat) : Int := if at' = L then f else fl f 15
set_option maxRecDepth 100000 in
theorem end_any (R N : Nat) (t : TypeId) (A : Option Addr) (L C : Nat) (l : List Int) (at' : Nat) (f : Int) (E : Nat → Value) (w : World) (h : Rdr w R N t A L C l at' f E) :
    Calls Try.prog 90 #[.pointer (some ⟨R, 0, none⟩)] w fun e w' => e = .returned (.tuple #[]) ∧ Rdr w' R N t A L C l at' (enF f at' L) E ∧ w.grownBy w' (some R) := by
  have HR := Lib.hid h
  by_cases he : at' = L
  · have HEn := Lib.hid (ended_any R N t A L C l at' f E w h true (by simp [he]))
    have H2 : Hid (enF f at' L = f) := Lib.hid (if_pos he)
    clear h he
    go_enter Try.func90, Try.ntmps90
    go_wp2_with fail
    refine HEn.out.mono ?_
    rintro e w1 ⟨rfl, hb⟩
    have HR1 := Lib.hid (HR.out.below hb)
    have HG1 : Hid (w.grownBy w1 (some R)) := Lib.hid ⟨hb.os, hb.tape, hb.output, hb.size, fun i hi _ => hb.block i hi⟩
    clear hb HR HEn
    go_wp2_with fail
    go_end0
    rw [H2.out]
    exact ⟨rfl, HR1.out, HG1.out⟩
  · have HEn := Lib.hid (ended_any R N t A L C l at' f E w h false (by simp; omega))
    have H2 : Hid (enF f at' L = fl f 15) := Lib.hid (if_neg he)
    clear h he
    go_enter Try.func90, Try.ntmps90
    go_wp2_with fail
    refine HEn.out.mono ?_
    rintro e w1 ⟨rfl, hb⟩
    have HFm := Lib.hid (fail_any R N t A L C l at' f 15 E w1 (HR.out.below hb))
    have HG1 : Hid (w.grownBy w1 (some R)) := Lib.hid ⟨hb.os, hb.tape, hb.output, hb.size, fun i hi _ => hb.block i hi⟩
    clear hb HR HEn
    go_wp2_with fail
    refine HFm.out.mono ?_
    rintro e w2 ⟨rfl, hR, hg⟩
    have HR2 := Lib.hid hR
    have HG2 := Lib.hid (grown_trans HG1.out hg)
    clear hR hg HFm HG1
    go_wp2_with fail
    go_end0
    rw [H2.out]
    exact ⟨rfl, HR2.out, HG2.out⟩
end Go.Proofs.Ytmcmapgllaopmaa.Cd
