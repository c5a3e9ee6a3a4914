/- lines.numbered and lines.Diff, walked. -/
import Derived.Test.YtlaneilmffdahaaLnNum
import Derived.Test.YtlaneilmffdahaaLnWalk
import Derived.Deep.RegionWith
namespace Go.Proofs.Ytlaneilmffdahaa.Ln
open Go.RowKit
set_option linter.unusedVariables false
/-- a line's number -/
def pz (d : List ByteArray) (s : ByteArray) : Int := ((place s d : Nat) : Int)
theorem nums_iv (ss d : List ByteArray) : nums ss d = iv (ss.map (pz d)) := by simp [nums, nv, iv, pz, Function.comp_def]
theorem below_only {w w' : World} {B M : Nat} (h : w.grownBy w' (some M)) (hM : B ≤ M) (hB : B ≤ w.heap.size) : Below B w w' :=
  ⟨h.os, h.tape, h.output, h.size, fun k hk => h.block k (by omega) (by intro e; injection e with e; omega)⟩
/-- what numbered answers: two rows of numbers -/
def TwoRet (la lb : Nat) (sa sb : List ByteArray) (w : World) (e : Ending) (w' : World) : Prop :=
  ∃ G1 G2 d, e = .returned (.tuple #[.slice (some ⟨G1, 0, none⟩) la la, .slice (some ⟨G2, 0, none⟩) lb lb]) ∧ (∀ s ∈ sa, s ∈ d) ∧ (∀ s ∈ sb, s ∈ d) ∧
    w'.ownsRow w.heap.size 3 1 (.slice (some ⟨G1, 0, none⟩) la la) la (iv (sa.map (pz d))) ∧ w'.ownsRow w.heap.size 3 1 (.slice (some ⟨G2, 0, none⟩) lb lb) lb (iv (sb.map (pz d))) ∧ Below w.heap.size w w'
theorem own_base {w : World} {B B' e sz n : Nat} {v : Value} {xs : List Value} (h : w.ownsRow B e sz v n xs) (hB : B' ≤ B) : w.ownsRow B' e sz v n xs := by
  refine ⟨h.1, ?_⟩
  rcases h.2 with hn | ⟨g, cap, cur, hv, hb, hh, rest⟩
  · exact .inl hn
  · exact .inr ⟨g, cap, cur, hv, Nat.le_trans hB hb, hh, rest⟩
set_option maxHeartbeats 400000 in
theorem numbered_any (a : Option Addr) (la ca : Nat) (sa : List ByteArray) (b : Option Addr) (lb cb : Nat) (sb : List ByteArray) (w : World) (h1 : Rd w w.heap.size a la ca (sv sa)) (h2 : Rd w w.heap.size b lb cb (sv sb))
    (m1 : ∀ s ∈ sa, s.size ≤ maxLen) (m2 : ∀ s ∈ sb, s.size ≤ maxLen) (l1 : la ≤ 4000) (l2 : lb ≤ 4000) :
    Calls Try.prog 54 #[.slice a la ca, .slice b lb cb] w (TwoRet la lb sa sb w) := by
  have H1 := Lib.hid h1
  have H2 := Lib.hid h2
  have M1 := Lib.hid m1
  have M2 := Lib.hid m2
  clear h1 h2 m1 m2
  have hmm := @run_makeMap Try.prog
  go_enter Try.func54, Try.ntmps54
  go_wp2_with fail
  have hblk : ((w.alloc (Obj.map #[] 0)).alloc (Obj.cells #[.map (some w.heap.size)] 101)).heap[w.heap.size + 1]? = some (.cells #[.map (some w.heap.size)] 101 (0, 0)) := by
    have := heap_alloc_new (w.alloc (Obj.map #[] 0)) (Obj.cells #[.map (some w.heap.size)] 101)
    simpa using this
  have hbl : Below w.heap.size w ((w.alloc (Obj.map #[] 0)).alloc (Obj.cells #[.map (some w.heap.size)] 101)) := ((Below.refl w.heap.size w).alloc (Nat.le_refl _) _).alloc (by simp) _
  have hmap := (World.ownsMap_made (H := Unit) w Try.prog 9 (plainElem Try.prog 3)).alloc (Obj.cells #[.map (some w.heap.size)] 101)
  have HC := Lib.hid (closure_any (w.heap.size + 1) w.heap.size 0 (.map []) [] sa w.heap.size a la ca _ hblk hmap numMap_nil (Nat.le_refl _) (H1.out.below hbl) M1.out l1 (by omega))
  have HB := Lib.hid hbl
  have hsz := hbl.size
  have hlt1 := lt_of_block hblk
  generalize World.alloc (World.alloc _ _) _ = W1 at *
  clear hblk hbl hmap hmm
  refine HC.out.mono ?_
  rintro e w2 ⟨G1, d1, D1, rfl, hm1, hn1, hd1, -, hin1, ho1, hv1, hg1⟩
  have hbl2 : Below w.heap.size w w2 := HB.out.trans (below_only hg1 (Nat.le_refl _) hsz)
  have HC2 := Lib.hid (closure_any (w.heap.size + 1) w.heap.size (0 + la) D1 d1 sb w.heap.size b lb cb w2 hv1 hm1 hn1 hd1 (H2.out.below hbl2) M2.out l2 (by omega))
  have HB2 := Lib.hid hbl2
  have HO1 := Lib.hid ho1
  have HI1 := Lib.hid hin1
  have hsz1 := hg1.size
  have hmlt := hm1.lt
  clear hm1 hn1 hd1 hin1 ho1 hv1 hg1 hbl2 HC
  go_wp2_with fail
  refine HC2.out.mono ?_
  rintro e w3 ⟨G2, d2, D2, rfl, hm2, hn2, hd2, hfr, hin2, ho2, hv2, hg2⟩
  obtain ⟨ex, rfl⟩ := hfr
  have hbl3 : Below w.heap.size w w3 := HB2.out.trans (below_only hg2 (Nat.le_refl _) (by omega))
  have ho1' := HO1.out.kept hg2 (.inr (by
    obtain ⟨es, clock, hb, _⟩ := hm2
    intro e
    simp [Value.ownBlock] at e
    have h1 := HO1.out.lt G1 rfl
    omega))
  have e1 : nums sa d1 = iv (sa.map (pz (d1 ++ ex))) := by
    rw [nums_iv]
    congr 1
    exact List.map_congr_left (fun s hs => by unfold pz; rw [place_mem _ (HI1.out s hs)])
  rw [e1] at ho1'
  rw [nums_iv] at ho2
  have hs2 := HB2.out.size
  have HR : Hid (TwoRet la lb sa sb w (.returned (.tuple #[.slice (some ⟨G1, 0, none⟩) la la, .slice (some ⟨G2, 0, none⟩) lb lb])) w3) :=
    Lib.hid ⟨G1, G2, d1 ++ ex, rfl, fun s hs => List.mem_append_left _ (HI1.out s hs), hin2, own_base ho1' hsz, own_base ho2 hs2, hbl3⟩
  clear hm2 hn2 hd2 hin2 ho2 hv2 hg2 hbl3 ho1' e1
  go_wp2
  go_ret2
  exact HR.out
/-- what Diff answers: a script of the call's own -/
def DiffRet (l : List (Nat × Nat)) (w : World) (e : Ending) (w' : World) : Prop :=
  ∃ v, e = .returned (.tuple #[v, .int .i64 0]) ∧ w'.ownsRow w.heap.size 82 2 v l.length (ed l) ∧ l.length ≤ tot l ∧ Below w.heap.size w w'
theorem scr_tot : ∀ (s : List Nat) (l : List (Nat × Nat)), tot (pack l s) = tot l + s.length
  | [], l => by simp [pack]
  | x :: s, l => by
      rw [pack_cons, scr_tot s, add_tot]
      simp; omega
theorem diff_spec (sa sb : List ByteArray) (d : List ByteArray) (k : Nat) (h1 : ∀ s ∈ sa.drop k, s ∈ d) (h2 : ∀ s ∈ sb.drop k, s ∈ d) (hk : k = cpre sa sb) :
    pack (add [] 0 k) (steps ((sa.drop k).map (pz d)) ((sb.drop k).map (pz d))) = scr sa sb := by
  subst hk
  unfold scr
  conv => rhs; rw [steps_cpre, pack_append, pack_replicate]
  rw [steps_map]
  intro x hx y hy e
  unfold pz at e
  exact place_inj (h1 x hx) (h2 y hy) (by omega)
set_option maxHeartbeats 400000 in
theorem diff_many (a : Option Addr) (la ca : Nat) (b : Option Addr) (lb cb : Nat) (w : World) (h : 4000 < la ∨ 4000 < lb) :
    Calls Try.prog 47 #[.slice a la ca, .slice b lb cb] w fun e w' => e = .returned (.tuple #[.slice none 0 0, .int .i64 4]) ∧ w = w' := by
  by_cases h1 : 4000 < la
  · have hd : decide (4000 < la) = true := by simp; omega
    go_enter Try.func47, Try.ntmps47
    go_wp2
    go_ret2
    exact ⟨rfl, rfl⟩
  · have hd : decide (4000 < la) = false := by simp; omega
    have hd2 : decide (4000 < lb) = true := by simp; omega
    go_enter Try.func47, Try.ntmps47
    go_wp2
    go_ret2
    exact ⟨rfl, rfl⟩
theorem cpre_step (a b : List ByteArray) (k : Nat) (ha : k < a.length) (hb : k < b.length) :
    cpre (a.drop k) (b.drop k) = if a.getD k ByteArray.empty = b.getD k ByteArray.empty then cpre (a.drop (k + 1)) (b.drop (k + 1)) + 1 else 0 := by
  rw [List.drop_eq_getElem_cons ha, List.drop_eq_getElem_cons hb]
  simp [cpre, ha, hb]
theorem cpre_end (a b : List ByteArray) (k : Nat) (h : ¬(k < a.length ∧ k < b.length)) : cpre (a.drop k) (b.drop k) = 0 := by
  rcases Nat.lt_or_ge k a.length with h1 | h1
  · rw [show b.drop k = [] from List.drop_eq_nil_of_le (by omega)]
    cases a.drop k <;> rfl
  · rw [show a.drop k = [] from List.drop_eq_nil_of_le h1]
    rfl
theorem str_eq {s t : ByteArray} : (s.toList == t.toList) = true ↔ s = t := by
  constructor
  · intro h
    have e : s.toList = t.toList := by simpa using h
    exact Go.WideShapes.bytes_inj (by rw [← ByteArray.toList_eq s, ← ByteArray.toList_eq t]; exact e)
  · rintro rfl
    simp
theorem below_of_drew {B : Nat} {w w' : World} (h : Below B w.drew w') : Below B w w' := ⟨h.os, h.tape, h.output, h.size, h.block⟩
/-- behind the numbering: the walk -/
theorem diff_walk {B S k la lb G1 G2 : Nat} {sa sb dd : List ByteArray} {w2 w3 : World} (hsc : Scr w2 B S (add [] 0 k)) (hB : B ≤ w2.drew.heap.size) (h1 : ∀ s ∈ sa.drop k, s ∈ dd) (h2 : ∀ s ∈ sb.drop k, s ∈ dd)
    (ho1 : w3.ownsRow w2.drew.heap.size 3 1 (.slice (some ⟨G1, 0, none⟩) (la - k) (la - k)) (la - k) (iv ((sa.drop k).map (pz dd)))) (ho2 : w3.ownsRow w2.drew.heap.size 3 1 (.slice (some ⟨G2, 0, none⟩) (lb - k) (lb - k)) (lb - k) (iv ((sb.drop k).map (pz dd))))
    (hb : Below w2.drew.heap.size w2.drew w3) (hk : k = cpre sa sb) (b1 : la - k ≤ 4000) (b2 : lb - k ≤ 4000) (b3 : k ≤ 4000) :
    Calls Try.prog 53 #[.pointer (some ⟨S, 0, none⟩), .slice (some ⟨G1, 0, none⟩) (la - k) (la - k), .slice (some ⟨G2, 0, none⟩) (lb - k) (lb - k)] w3 (AddRet B S (scr sa sb) w3) := by
  have hk2 : Kp [] w2.drew w3 := kp_of_below hb
  have hsc3 : Scr w3 B S (add [] 0 k) := Scr.kp (w := w2.drew) hsc hk2 (by simp) (by simp)
  have := walk_any B S (add [] 0 k) _ _ _ _ _ _ _ _ w3 hsc3 (own_base ho1 hB) (own_base ho2 hB) b1 b2 (by rw [add_tot]; simp [tot]; omega)
  rw [diff_spec sa sb dd k h1 h2 hk] at this
  exact this
set_option maxRecDepth 100000 in
set_option maxHeartbeats 1000000 in
theorem diff_any (a : Option Addr) (la ca : Nat) (sa : List ByteArray) (b : Option Addr) (lb cb : Nat) (sb : List ByteArray) (w : World) (h1 : Rd w w.heap.size a la ca (sv sa)) (h2 : Rd w w.heap.size b lb cb (sv sb))
    (m1 : ∀ s ∈ sa, s.size ≤ maxLen) (m2 : ∀ s ∈ sb, s.size ≤ maxLen) (l1 : la ≤ 4000) (l2 : lb ≤ 4000) :
    Calls Try.prog 47 #[.slice a la ca, .slice b lb cb] w (DiffRet (scr sa sb) w) := by
  have lsa : sa.length = la := by have := h1.hlen; simpa [sv] using this
  have lsb : sb.length = lb := by have := h2.hlen; simpa [sv] using this
  have k1 := cpre_le_left sa sb
  have k2 := cpre_le_right sa sb
  rw [lsa] at k1
  rw [lsb] at k2
  obtain ⟨k, hk⟩ : ∃ k, k = cpre sa sb := ⟨_, rfl⟩
  rw [← hk] at k1 k2
  have HKP := Lib.hid hk
  have H1 := Lib.hid h1
  have H2 := Lib.hid h2
  have M1 := Lib.hid m1
  have M2 := Lib.hid m2
  have L1 := Lib.hid lsa
  have L2 := Lib.hid lsb
  clear h1 h2 m1 m2 lsa lsb hk
  go_enter Try.func47, Try.ntmps47
  go_upto_block 0 with (fail)
  go_cut [6] (fun s6 wx => s6 = .int .i64 (k : Int) ∧ ∃ d, wx = w.drewN d)
  case first =>
    go_wp2
    go_loopw [6] (fun n wr => ∃ i d : Nat, i ≤ la ∧ i ≤ lb ∧ n = .int .i64 i ∧ wr = w.drewN d ∧ Hid (k = i + cpre (sa.drop i) (sb.drop i))) (fun n _ => la - (intOf n).toNat)
    case atStart => exact ⟨0, 0, Nat.zero_le _, Nat.zero_le _, rfl, rfl, Lib.hid (by rw [HKP.out]; simp)⟩
    case round =>
      obtain ⟨i, d, hi1, hi2, rfl, rfl, H⟩ := hrel
      by_cases hlt : i < la ∧ i < lb
      · obtain ⟨hlt1, hlt2⟩ := hlt
        obtain ⟨x1, o1, rfl, hb1, hc1⟩ := H1.out.str i hlt1
        obtain ⟨x2, o2, rfl, hb2, hc2⟩ := H2.out.str i hlt2
        have hs := cpre_step sa sb i (by rw [L1.out]; exact hlt1) (by rw [L2.out]; exact hlt2)
        generalize hv1 : sa.getD i ByteArray.empty = v1 at hc1 hs
        generalize hv2 : sb.getD i ByteArray.empty = v2 at hc2 hs
        clear hv1 hv2
        by_cases hq : v1 = v2
        · have HN : Hid (k = (i + 1 : Nat) + cpre (sa.drop (i + 1)) (sb.drop (i + 1))) := Lib.hid (by rw [H.out, hs, if_pos hq]; omega)
          have hq' : (v1.toList == v2.toList) = true := str_eq.2 hq
          clear hs H hq
          go_wp2
          go_quiet (fail)
          go_wp2
          go_roundw
          case rel => exact ⟨i + 1, _, by omega, by omega, by go_num, rfl, HN⟩
          case measure => simp [intOf]; omega
        · have HN : Hid (k = i) := Lib.hid (by rw [H.out, hs, if_neg hq]; omega)
          have hq' : (v1.toList == v2.toList) = false := by
            cases e : (v1.toList == v2.toList)
            · rfl
            · exact absurd (str_eq.1 e) hq
          clear hs H hq
          go_wp2
          go_quiet (fail)
          go_wp2
          go_meet
          exact ⟨by rw [HN.out], _, World.drewN_drewN _ _ _⟩
      · have HN : Hid (k = i) := Lib.hid (by rw [H.out, cpre_end _ _ _ (by rw [L1.out, L2.out]; exact hlt)]; omega)
        clear H
        by_cases h : i < la
        · have h2 : lb ≤ i := by omega
          have hd1 : decide (i < la) = true := by simp; omega
          have hd2 : decide (i < lb) = false := by simp; omega
          clear hlt
          go_wp2
          go_quiet (fail)
          go_wp2
          go_meet
          exact ⟨by rw [HN.out], _, World.drewN_drewN _ _ _⟩
        · have hd1 : decide (i < la) = false := by simp; omega
          clear hlt
          go_wp2
          go_quiet (fail)
          go_wp2
          go_meet
          exact ⟨by rw [HN.out], _, World.drewN_drewN _ _ _⟩
  case rest =>
    obtain ⟨rfl, d, rfl⟩ := hcut
    go_wp2_with fail
    have hB0 : w.heap.size ≤ (w.drewN d).heap.size := Nat.le_refl _
    have hScr : Scr ((w.drewN d).alloc (Obj.cells #[.slice none 0 0] 89)) w.heap.size w.heap.size [] :=
      ⟨.slice none 0 0, Nat.le_refl _, by have := heap_alloc_new (w.drewN d) (Obj.cells #[.slice none 0 0] 89); exact this, World.ownsRow_nil _ _ _ _, by simp [tot]⟩
    have hbl : Below w.heap.size w ((w.drewN d).alloc (Obj.cells #[.slice none 0 0] 89)) := (below_drewN (Below.refl w.heap.size w) d).alloc hB0 _
    have HA := Lib.hid (add_call w.heap.size w.heap.size [] 0 (k : Int) _ hScr (by omega) (by simp [tot]; omega) (by omega) (by omega))
    have HB := Lib.hid hbl
    generalize World.alloc _ _ = W1 at *
    clear hScr hbl
    refine HA.out.mono ?_
    rintro e w2 ha
    obtain rfl := ha.1
    have hsc2 := ha.2.1
    rw [show ((0 : Int)).toNat = 0 from rfl, Int.toNat_natCast] at hsc2
    have hb2 := HB.out.trans ha.2.2.1
    have hs2 : w.heap.size ≤ w2.heap.size := hb2.size
    have r1 : Rd w2.drew w2.drew.heap.size (if ca = k then a else Option.map (fun x => x.add k) a) (la - k) (ca - k) (sv (sa.drop k)) := by
      have := ((H1.out.below hb2).more hs2).cut k k1
      rw [show (sv sa).drop k = sv (sa.drop k) from by simp [sv]] at this
      exact this.drewN 1
    have r2 : Rd w2.drew w2.drew.heap.size (if cb = k then b else Option.map (fun x => x.add k) b) (lb - k) (cb - k) (sv (sb.drop k)) := by
      have := ((H2.out.below hb2).more hs2).cut k k2
      rw [show (sv sb).drop k = sv (sb.drop k) from by simp [sv]] at this
      exact this.drewN 1
    obtain ⟨A1, hA1⟩ : ∃ A, (if ca = k then a else Option.map (fun x => x.add k) a) = A := ⟨_, rfl⟩
    obtain ⟨A2, hA2⟩ : ∃ A, (if cb = k then b else Option.map (fun x => x.add k) b) = A := ⟨_, rfl⟩
    rw [hA1] at r1
    rw [hA2] at r2
    have HN := Lib.hid (numbered_any _ (la - k) (ca - k) (sa.drop k) _ (lb - k) (cb - k) (sb.drop k) w2.drew r1 r2 (fun s hs => M1.out s (List.mem_of_mem_drop hs)) (fun s hs => M2.out s (List.mem_of_mem_drop hs)) (by omega) (by omega))
    have HSC := Lib.hid hsc2
    have HB2 := Lib.hid hb2
    have hca1 := H1.out.hcap
    have hcb1 := H2.out.hcap
    have hs2d : w.heap.size ≤ w2.drew.heap.size := hs2
    clear hsc2 hb2 r1 r2 ha HA HB hs2
    go_wp2_with fail
    go_region_with (first | (go_at_call 54; (with_reducible refine HN.out.mono ?_); rintro e w3 ⟨G1, G2, dd, rfl, hd1, hd2, ho1, ho2, hb3⟩; have HRES := Lib.hid (diff_walk HSC.out hs2d hd1 hd2 ho1 ho2 hb3 HKP.out (by omega) (by omega) (by omega)); have HB3 := Lib.hid hb3; clear hd1 hd2 ho1 ho2 hb3) | (go_at_call 53; (with_reducible refine HRES.out.mono ?_); rintro e w4 ⟨rfl, hsc4, hb4, hk4⟩; have HSC4 := Lib.hid hsc4; have HB4 := Lib.hid hb4; clear hsc4 hb4 hk4))
    clear hA1 hA2
    obtain ⟨v4, hB4, hS4, ho4, ht4⟩ := HSC4.out
    have hcell := cell_of_one hS4
    obtain ⟨A4, N4, C4, rfl⟩ := own_slice ho4
    have HF : Hid (DiffRet (scr sa sb) w (.returned (.tuple #[.slice A4 N4 C4, .int .i64 0])) w4) := Lib.hid ⟨_, rfl, ho4, ht4, HB2.out.trans ((below_of_drew (HB3.out.mono hs2d)).trans HB4.out)⟩
    clear hB4 hS4 ho4 ht4
    go_wp2
    go_ret2
    exact HF.out
end Go.Proofs.Ytlaneilmffdahaa.Ln
