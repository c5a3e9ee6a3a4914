/- ParseTree of any bytes. -/
import Derived.Test.YtmcmapgllaopmaaCdEntry
namespace Go.Proofs.Ytmcmapgllaopmaa.Cd
open Go.RowKit
set_option linter.unusedVariables false

theorem fl_zero {f e : Int} (h : fl f e = 0) : f = 0 ∧ e = 0 := by
  unfold fl at h
  split at h
  · exact ⟨by assumption, h⟩
  · exact absurd h (by assumption)
theorem tkF_zero {f : Int} {a L n : Nat} (h : tkF f a L n = 0) : f = 0 ∧ ¬ (L - a < n) := by
  unfold tkF at h
  split at h
  · exact absurd h (by decide)
  · rename_i h1
    exact ⟨h, fun h2 => h1 ⟨h, h2⟩⟩
theorem tkA_zero {f : Int} {a L n : Nat} (h : tkF f a L n = 0) : tkA f a L n = a + n := by
  unfold tkA
  rw [if_pos h]
/-- an entry that is read well takes 34 bytes or more, and the count is not full -/
theorem rd_step {l : List Int} {at' L cnt : Nat} {prev : Option ByteArray} (h : rdF l at' L cnt prev = 0) : at' + 34 ≤ (rd1 l at' L).pos ∧ cnt ≠ 512 := by
  unfold rdF at h
  obtain ⟨h1, -⟩ := fl_zero h
  have h2 : (rd1 l at' L).f = 0 ∧ cnt ≠ 512 := by
    split at h1
    · exact absurd (fl_zero h1).2 (by decide)
    · exact ⟨h1, by assumption⟩
  refine ⟨?_, h2.2⟩
  have h3 := h2.1
  unfold rd1 at h3 ⊢
  dsimp only at h3 ⊢
  generalize rdM l at' L = m at *
  have e4 := tkF_zero h3
  have e3 := tkF_zero e4.1
  have e2 := tkF_zero e3.1
  have a4 := tkA_zero h3
  have a3 := tkA_zero e4.1
  have a2 := tkA_zero e3.1
  have a1 := tkA_zero e2.1
  omega

/-- what the bytes of a tree's body say: what failed, the entries -/
def pT (l : List Int) (L : Nat) : Nat → Nat → List Fr.Ent → Int × List Fr.Ent
  | 0, _, es => (0, es)
  | n + 1, at', es => if at' = L then (0, es) else if rdF l at' L es.length (lastN es) = 0 then pT l L n (rd1 l at' L).pos (es ++ [⟨(rd1 l at' L).nm, (rd1 l at' L).k, (rd1 l at' L).id⟩]) else (rdF l at' L es.length (lastN es), [])

/-- where the reader is -/
def atOf (w : World) (R : Nat) : Nat := match w.cell? ⟨R, 1, none⟩ with
  | some (.int _ x) => x.toNat
  | _ => 0
theorem Tr.atOf {w : World} {R : Nat} {A : Option Addr} {L C : Nat} {l : List Int} {at' : Nat} {f : Int} {B : Nat} {Ae : Option Addr} {ne Ce : Nat} {es : List Fr.Ent} (h : Tr w R A L C l at' f B Ae ne Ce es) : atOf w R = at' := by
  unfold Cd.atOf
  rw [h.rdr.c1]
  rfl
theorem Tr.below {w w' : World} {R : Nat} {A : Option Addr} {L C : Nat} {l : List Int} {at' : Nat} {f : Int} {B : Nat} {Ae : Option Addr} {ne Ce : Nat} {es : List Fr.Ent} (h : Tr w R A L C l at' f B Ae ne Ce es) (hb : Below w.heap.size w w') : Tr w' R A L C l at' f B Ae ne Ce es :=
  ⟨h.rdr.below hb, own_keep h.own hb, h.hB, Nat.le_trans h.hBs hb.size, h.ids, h.hAB, h.hne⟩

theorem ended_any (R N : Nat) (t : TypeId) (A : Option Addr) (L C : Nat) (l : List Int) (at' : Nat) (f : Int) (E : Nat → Value) (w : World) (h : Rdr w R N t A L C l at' f E) (b : Bool) (hb : ((at' : Int) == (L : Int)) = b) :
    Calls Try.prog 44 #[.pointer (some ⟨R, 0, none⟩)] w fun e w' => e = .returned (.bool b) ∧ Below w.heap.size w w' := by
  have HB := Lib.hid (Below.refl w.heap.size w)
  have h0 := h.c0
  have h1 := h.c1
  clear h
  go_enter Try.func44, Try.ntmps44
  go_wp2
  go_quiet (fail)
  go_wp2
  go_ret
  exact ⟨rfl, below_drewN HB.out _⟩

/-- what ParseTree hands back -/
def PtRet (l : List Int) (L : Nat) (w : World) (e : Ending) (w' : World) : Prop :=
  Below w.heap.size w w' ∧
  (((pT l L (L + 1) 0 []).1 ≠ 0 ∧ e = .returned (.tuple #[.slice none 0 0, .int .i64 (pT l L (L + 1) 0 []).1])) ∨
   ((pT l L (L + 1) 0 []).1 = 0 ∧ (∀ x ∈ (pT l L (L + 1) 0 []).2, x.id.length = 32) ∧ ∃ Ae Ce, e = .returned (.tuple #[.slice Ae (pT l L (L + 1) 0 []).2.length Ce, .int .i64 0]) ∧ w'.ownsRow w.heap.size 87 34 (.slice Ae (pT l L (L + 1) 0 []).2.length Ce) (pT l L (L + 1) 0 []).2.length (entsV (pT l L (L + 1) 0 []).2)))

set_option maxRecDepth 100000 in
theorem parseTree_any (A : Option Addr) (L C : Nat) (l : List Int) (w : World) (h : RdB w A L C l) :
    Calls Try.prog 14 #[.slice A L C] w (PtRet l L w) := by
  have HT0 : Hid (Tr (w.alloc (.cells #[.slice A L C, .int .i64 0, .int .i64 0, .slice none 0 0] 96)) w.heap.size A L C l 0 0 (w.heap.size + 1) none 0 0 []) := Lib.hid (by
    have hb := (Below.refl w.heap.size w).alloc (Nat.le_refl _) (.cells #[.slice A L C, .int .i64 0, .int .i64 0, .slice none 0 0] 96)
    have hr := row_new w #[.slice A L C, .int .i64 0, .int .i64 0, .slice none 0 0] 96
    refine ⟨⟨hr.congr (fun j hj => ?_), by decide, h.below hb, fun x hx h0 => ?_, Nat.zero_le _⟩, ⟨by simp [entsV], .inl ⟨rfl, rfl⟩⟩, Nat.lt_succ_self _, al_lt w _, by simp, fun x hx h0 => ?_, rfl⟩
    · match j, hj with
      | 0, _ => rfl
      | 1, _ => rfl
      | 2, _ => rfl
      | 3, _ => rfl
    · have := (h.cell x hx).1 h0; omega
    · have := (h.cell x hx).1 h0; omega)
  have HB0 : Hid (Below w.heap.size w (w.alloc (.cells #[.slice A L C, .int .i64 0, .int .i64 0, .slice none 0 0] 96))) := Lib.hid ((Below.refl w.heap.size w).alloc (Nat.le_refl _) _)
  clear h
  go_enter Try.func14, Try.ntmps14
  go_wp2_with fail
  go_loopw [9] (fun s wr => ∃ (n at' : Nat) (Ae : Option Addr) (ne Ce : Nat) (es : List Fr.Ent), L - at' < n ∧ ne ≤ 512 ∧ Hid (pT l L n at' es = pT l L (L + 1) 0 []) ∧ Hid (Tr wr w.heap.size A L C l at' 0 (w.heap.size + 1) Ae ne Ce es) ∧ Hid (Below w.heap.size w wr)) (fun _ wr => L - atOf wr w.heap.size)
  case atStart => exact ⟨L + 1, 0, none, 0, 0, [], by omega, by decide, Lib.hid rfl, HT0, HB0⟩
  case round =>
    clear HT0 HB0
    obtain ⟨n, at', Ae, ne, Ce, es, hn, hne, HP, HT, HB⟩ := hrel
    have hat := HT.out.atOf
    have HAt := Lib.hid hat
    clear hat
    obtain ⟨n, rfl⟩ : ∃ m, n = m + 1 := ⟨n - 1, by omega⟩
    have hle := HT.out.rdr.le
    by_cases he : at' = L
    · have HEn := Lib.hid (ended_any w.heap.size 4 96 A L C l at' 0 _ wr HT.out.rdr true (by simp [he]))
      have hp : pT l L (L + 1) 0 [] = (0, es) := by
        rw [← HP.out, pT, if_pos he]
      have HPp := Lib.hid hp
      clear hp he HP
      go_wp2_with fail
      refine HEn.out.mono ?_
      rintro e w1 ⟨rfl, hb⟩
      have HT1 := Lib.hid (HT.out.below hb)
      have HB1 := Lib.hid (HB.out.trans (hb.mono HB.out.size))
      have hc : w1.cell? ⟨w.heap.size, 3, none⟩ = some (.slice Ae ne Ce) := HT1.out.rdr.row.cell (i := 3) (by omega)
      clear hb HT HB HEn
      go_wp2_with fail
      go_ret2
      refine ⟨HB1.out, .inr ?_⟩
      rw [HPp.out]
      refine ⟨rfl, HT1.out.ids, Ae, Ce, ?_, ?_⟩
      · rw [HT1.out.hne]; rfl
      · rw [HT1.out.hne]; exact own_base HT1.out.own (Nat.le_succ _)
    · have HEn := Lib.hid (ended_any w.heap.size 4 96 A L C l at' 0 _ wr HT.out.rdr false (by simp; omega))
      go_wp2_with fail
      refine HEn.out.mono ?_
      rintro e w1 ⟨rfl, hb⟩
      have HT1 := Lib.hid (HT.out.below hb)
      have HB1 := Lib.hid (HB.out.trans (hb.mono HB.out.size))
      clear hb HT HB HEn
      have HEy := Lib.hid (entry_any w.heap.size A L C l at' (w.heap.size + 1) Ae ne Ce es w1 HT1.out hne)
      go_wp2_with fail
      refine HEy.out.mono ?_
      rintro e w2 ⟨rfl, ⟨Ae2, Ce2, ht⟩, hb⟩
      have HT2 := Lib.hid ht
      have HB2 := Lib.hid (HB1.out.trans hb)
      have hln := HT1.out.hne
      clear ht hb HEy HB1
      obtain ⟨f, hf⟩ : ∃ f, f = rdF l at' L ne (lastN es) := ⟨_, rfl⟩
      rw [← hf] at HT2
      have HOk := Lib.hid (ok_any w.heap.size 4 96 A L C l _ f _ w2 HT2.out.rdr)
      have hp := HP.out
      rw [pT, if_neg he, hln, ← hf] at hp
      by_cases h0 : f = 0
      · rw [if_pos h0] at hp
        have hs := rd_step (hf.symm.trans h0)
        have hd : (f == 0) = true := by simp [h0]
        rw [h0] at HT2
        have HP2 := Lib.hid hp
        have HS := Lib.hid hs
        have hle2 := HT2.out.rdr.le
        clear hp hs hf HP hln
        go_wp2_with fail
        refine HOk.out.mono ?_
        rintro e w3 ⟨rfl, rfl⟩
        clear HOk
        go_wp2_with fail
        go_roundw
        case rel => exact ⟨n, _, Ae2, ne + 1, Ce2, _, by have := HS.out.1; omega, by have := HS.out.2; omega, HP2, HT2, HB2⟩
        case measure =>
          have h1 := HAt.out
          have h2 := HT2.out.atOf
          have h3 := HS.out.1
          omega
      · rw [if_neg h0] at hp
        have hd : (f == 0) = false := by simp [h0]
        have HP2 := Lib.hid hp
        have H0 := Lib.hid h0
        have hc := HT2.out.rdr.c2
        clear hp hf HP hln h0
        go_wp2_with fail
        refine HOk.out.mono ?_
        rintro e w3 ⟨rfl, rfl⟩
        clear HOk
        go_wp2_with fail
        go_quiet (fail)
        go_wp2_with fail
        go_ret2
        refine ⟨below_drewN HB2.out _, .inl ?_⟩
        rw [← HP2.out]
        exact ⟨H0.out, rfl⟩
end Go.Proofs.Ytmcmapgllaopmaa.Cd
