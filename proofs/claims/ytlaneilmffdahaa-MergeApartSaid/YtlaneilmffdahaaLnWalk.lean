/- A script's walk through two rows of numbers. -/
import Derived.Test.YtlaneilmffdahaaLnMore
import Derived.Test.YtlaneilmffdahaaLnAdd
namespace Go.Proofs.Ytlaneilmffdahaa.Ln
open Go.RowKit
set_option linter.unusedVariables false
theorem add_call (B S : Nat) (l : List (Nat × Nat)) (op n : Int) (w : World) (h : Scr w B S l) (h0 : 0 ≤ n) (hT : tot l + n ≤ 1000000) (o0 : 0 ≤ op) (o1 : op ≤ 2) :
    Calls Try.prog 52 #[.pointer (some ⟨S, 0, none⟩), .int .i64 op, .int .i64 n] w (AddRet B S (add l op.toNat n.toNat) w) := by
  obtain ⟨op, rfl⟩ := Int.eq_ofNat_of_zero_le o0
  rw [Int.toNat_natCast]
  exact add_any B S l op n w h h0 hT (by omega)
/-- where the walk stands -/
structure Wk (w wr : World) (B S T g : Nat) (l : List (Nat × Nat)) (a1 : Option Addr) (la ca : Nat) (za : List Int) (a2 : Option Addr) (lb cb : Nat) (zb : List Int) (rows cols N i j : Nat) (lc : List (Nat × Nat)) : Prop where
  sc : Scr wr B S lc
  ps : pack lc (steps (za.drop i) (zb.drop j)) = pack l (steps za zb)
  tt : tot lc ≤ tot l + i + j
  tab : TabOk wr g za zb rows cols N
  tv : wr.heap[T]? = some (.cells #[.slice (some ⟨g, 0, none⟩) N N, .int .i64 (rows : Int), .int .i64 (cols : Int), .int .i64 ((la : Int) - (lb : Int))] 98 (0, 0))
  oa : wr.ownsRow B 3 1 (.slice a1 la ca) la (iv za)
  ob : wr.ownsRow B 3 1 (.slice a2 lb cb) lb (iv zb)
  kp : Kp [89, 82] w wr
  bel : Below B w wr
theorem Wk.drewN {w wr : World} {B S T g : Nat} {l : List (Nat × Nat)} {a1 : Option Addr} {la ca : Nat} {za : List Int} {a2 : Option Addr} {lb cb : Nat} {zb : List Int} {rows cols N i j : Nat} {lc : List (Nat × Nat)}
    (h : Wk w wr B S T g l a1 la ca za a2 lb cb zb rows cols N i j lc) (n : Nat) : Wk w (wr.drewN n) B S T g l a1 la ca za a2 lb cb zb rows cols N i j lc :=
  ⟨h.sc, h.ps, h.tt, h.tab.drewN n, h.tv, h.oa, h.ob, h.kp.drewN n, below_drewN h.bel n⟩
/-- a step -/
theorem Wk.step {w wr w' : World} {B S T g : Nat} {l : List (Nat × Nat)} {a1 : Option Addr} {la ca : Nat} {za : List Int} {a2 : Option Addr} {lb cb : Nat} {zb : List Int} {rows cols N i j i' j' : Nat} {lc lc' : List (Nat × Nat)}
    (h : Wk w wr B S T g l a1 la ca za a2 lb cb zb rows cols N i j lc) {e : Ending} (ha : AddRet B S lc' wr e w')
    (hp : pack lc' (steps (za.drop i') (zb.drop j')) = pack lc (steps (za.drop i) (zb.drop j))) (ht : tot lc' ≤ tot l + i' + j') : Wk w w' B S T g l a1 la ca za a2 lb cb zb rows cols N i' j' lc' :=
  ⟨ha.2.1, hp.trans h.ps, ht, h.tab.kp ha.2.2.2 (by decide), ha.2.2.2.block _ _ _ _ h.tv (by decide), ha.2.2.2.own h.oa (by decide), ha.2.2.2.own h.ob (by decide), h.kp.trans ha.2.2.2, h.bel.trans ha.2.2.1⟩
/-- something else that makes memory -/
theorem Wk.other {w wr w' : World} {B S T g : Nat} {l : List (Nat × Nat)} {a1 : Option Addr} {la ca : Nat} {za : List Int} {a2 : Option Addr} {lb cb : Nat} {zb : List Int} {rows cols N i j : Nat} {lc : List (Nat × Nat)}
    (h : Wk w wr B S T g l a1 la ca za a2 lb cb zb rows cols N i j lc) (hb : Below wr.heap.size wr w') : Wk w w' B S T g l a1 la ca za a2 lb cb zb rows cols N i j lc := by
  have hk : Kp [] wr w' := kp_of_below hb
  have hB : B ≤ wr.heap.size := by
    obtain ⟨v, hB, hS, _⟩ := h.sc
    exact Nat.le_trans hB (Nat.le_of_lt (lt_of_block hS))
  exact ⟨h.sc.kp hk (by simp) (by simp), h.ps, h.tt, h.tab.below hb, hk.block _ _ _ _ h.tv (by simp), hk.own h.oa (by simp), hk.own h.ob (by simp), h.kp.trans (kp_of_below hb), h.bel.trans (hb.mono hB)⟩
theorem steps_drop (za zb : List Int) (i j : Nat) (hi : i < za.length) (hj : j < zb.length) :
    steps (za.drop i) (zb.drop j) = if za.getD i 0 = zb.getD j 0 then 0 :: steps (za.drop (i + 1)) (zb.drop (j + 1)) else if mbB za zb i j = true then 1 :: steps (za.drop (i + 1)) (zb.drop j) else 2 :: steps (za.drop i) (zb.drop (j + 1)) := by
  conv => lhs; rw [List.drop_eq_getElem_cons hi, List.drop_eq_getElem_cons hj, steps_cons]
  rw [← List.drop_eq_getElem_cons hi, ← List.drop_eq_getElem_cons hj]
  simp [hi, hj, mbB]
set_option maxRecDepth 100000 in
set_option maxHeartbeats 1000000 in
theorem walk_any (B S : Nat) (l : List (Nat × Nat)) (a1 : Option Addr) (la ca : Nat) (za : List Int) (a2 : Option Addr) (lb cb : Nat) (zb : List Int) (w : World) (h : Scr w B S l)
    (h1 : w.ownsRow B 3 1 (.slice a1 la ca) la (iv za)) (h2 : w.ownsRow B 3 1 (.slice a2 lb cb) lb (iv zb)) (ba : la ≤ 4000) (bb : lb ≤ 4000) (hT : tot l ≤ 10000) :
    Calls Try.prog 53 #[.pointer (some ⟨S, 0, none⟩), .slice a1 la ca, .slice a2 lb cb] w (AddRet B S (pack l (steps za zb)) w) := by
  have lza : za.length = la := by have := h1.1; simpa [iv] using this
  have lzb : zb.length = lb := by have := h2.1; simpa [iv] using this
  have hB : B ≤ w.heap.size := by
    obtain ⟨v, hB, hS, _⟩ := h
    exact Nat.le_trans hB (Nat.le_of_lt (lt_of_block hS))
  have HC := Lib.hid (keepable_any a1 la ca za a2 lb cb zb w (Rd.of_own h1 (by omega)).1 (Rd.of_own h2 (by omega)).1 ba bb)
  have H := Lib.hid h
  have H1 := Lib.hid h1
  have H2 := Lib.hid h2
  have LA := Lib.hid lza
  have LB := Lib.hid lzb
  clear h h1 h2 lza lzb
  go_enter Try.func53, Try.ntmps53
  go_step3
  go_wp2_with fail
  refine HC.out.mono ?_
  rintro e w1 ⟨rows, cols, N, g, rfl, hr, hc, hsame, hN, hrow, hg, hb⟩
  have HW : Hid (Wk w (w1.alloc (.cells #[.slice (some ⟨g, 0, none⟩) N N, .int .i64 (rows : Int), .int .i64 (cols : Int), .int .i64 ((la : Int) - (lb : Int))] 98)) B S w1.heap.size g l a1 la ca za a2 lb cb zb rows cols N 0 0 l) := by
    have k : Kp [] w (w1.alloc (.cells #[.slice (some ⟨g, 0, none⟩) N N, .int .i64 (rows : Int), .int .i64 (cols : Int), .int .i64 ((la : Int) - (lb : Int))] 98)) := (kp_of_below hb).alloc _
    refine Lib.hid ⟨H.out.kp k (by simp) (by simp), by simp, by omega, ⟨by rw [LA.out]; exact hr, by rw [LB.out]; exact hc, hsame, hN, hrow.alloc _⟩, heap_alloc_new w1 _, k.own H1.out (by simp), k.own H2.out (by simp), k.mono (by simp), (hb.mono hB).alloc (Nat.le_trans hB hb.size) _⟩
  clear hr hc hsame hN hrow hg hb HC
  have hB1 : B ≤ w1.heap.size + 1 := by
    obtain ⟨v, hBS, hS, _⟩ := HW.out.sc
    have := lt_of_block hS
    simp at this
    omega
  go_wp2_with fail
  go_step3
  go_wp2_with fail
  obtain ⟨T, hTe⟩ : ∃ T, T = w1.heap.size := ⟨_, rfl⟩
  rw [← hTe] at HW ⊢
  generalize World.alloc _ _ = W2 at *
  clear hTe
  go_loopg [7, 8] (la + lb) (fun k s7 s8 wr => ∃ (i j : Nat) (lc : List (Nat × Nat)), i ≤ la ∧ j ≤ lb ∧ k + i + j = la + lb ∧ s7 = .int .i64 i ∧ s8 = .int .i64 j ∧ Hid (Wk w wr B S T g l a1 la ca za a2 lb cb zb rows cols N i j lc))
  case atStart => exact ⟨0, 0, l, Nat.zero_le _, Nat.zero_le _, by omega, rfl, rfl, HW⟩
  case round =>
    clear HW
    obtain ⟨i, j, lc, hi, hj, hk, rfl, rfl, HK⟩ := hrel
    have htt := HK.out.tt
    by_cases hia : i = la
    · have h1 : ((i : Int) == (la : Int)) = true := by simp; omega
      have HA := Lib.hid (add_call B S lc 2 ((lb : Int) - (j : Int)) wr HK.out.sc (by omega) (by omega) (by omega) (by omega))
      have HE : Hid (add lc 2 (lb - j) = pack l (steps za zb)) := Lib.hid (by
        rw [← HK.out.ps, List.drop_eq_nil_of_le (by rw [LA.out]; omega), steps_nil_left, pack_replicate, List.length_drop, LB.out])
      clear hia
      go_wp2_with fail
      refine HA.out.mono ?_
      rintro e w' ha
      obtain rfl := ha.1
      have HR := Lib.hid ha
      clear ha
      go_wp2
      go_end0
      have hr := HR.out
      rw [show ((2 : Int)).toNat = 2 from rfl, show ((lb : Int) - (j : Int)).toNat = lb - j from by omega, HE.out] at hr
      exact ⟨rfl, hr.2.1, HK.out.bel.trans hr.2.2.1, HK.out.kp.trans hr.2.2.2⟩
    · have h1 : ((i : Int) == (la : Int)) = false := by simp; omega
      by_cases hjb : j = lb
      · have h2 : ((j : Int) == (lb : Int)) = true := by simp; omega
        have HA := Lib.hid (add_call B S lc 1 ((la : Int) - (i : Int)) wr HK.out.sc (by omega) (by omega) (by omega) (by omega))
        have HE : Hid (add lc 1 (la - i) = pack l (steps za zb)) := Lib.hid (by
          rw [← HK.out.ps, show zb.drop j = [] from List.drop_eq_nil_of_le (by rw [LB.out]; omega), steps_nil_right, pack_replicate, List.length_drop, LA.out])
        clear hia hjb
        go_wp2_with fail
        refine HA.out.mono ?_
        rintro e w' ha
        obtain rfl := ha.1
        have HR := Lib.hid ha
        clear ha
        go_wp2
        go_end0
        have hr := HR.out
        rw [show ((1 : Int)).toNat = 1 from rfl, show ((la : Int) - (i : Int)).toNat = la - i from by omega, HE.out] at hr
        exact ⟨rfl, hr.2.1, HK.out.bel.trans hr.2.2.1, HK.out.kp.trans hr.2.2.2⟩
      · have h2 : ((j : Int) == (lb : Int)) = false := by simp; omega
        have hi2 : i < la := by omega
        have hj2 : j < lb := by omega
        clear hia hjb
        obtain ⟨x1, o1, rfl, hb1, hc1⟩ := (Rd.of_own HK.out.oa (by omega)).1.int i hi2
        obtain ⟨x2, o2, rfl, hb2, hc2⟩ := (Rd.of_own HK.out.ob (by omega)).1.int j hj2
        have hst := steps_drop za zb i j (by rw [LA.out]; exact hi2) (by rw [LB.out]; exact hj2)
        have HMB := Lib.hid (fun (W : World) (hW : TabOk W g za zb rows cols N) (hne : za.getD i 0 ≠ zb.getD j 0) => moreBehind_any g rows cols N ((la : Int) - (lb : Int)) za zb i j W hW (by rw [LA.out]; exact ba) (by rw [LB.out]; exact bb) (by rw [LA.out, LB.out]) (by rw [LA.out]; exact hi2) (by rw [LB.out]; exact hj2) hne)
        by_cases hq : za.getD i 0 = zb.getD j 0
        · have hq' : (za.getD i 0 == zb.getD j 0) = true := by simp only [hq, beq_self_eq_true]
          have HE : Hid (pack (add lc 0 1) (steps (za.drop (i + 1)) (zb.drop (j + 1))) = pack lc (steps (za.drop i) (zb.drop j))) := Lib.hid (by rw [hst, if_pos hq, pack_cons])
          generalize za.getD i 0 = v1 at hc1 hq'
          generalize zb.getD j 0 = v2 at hc2 hq'
          clear hq hst HMB
          go_wp2
          go_quiet (fail)
          rename_i nq
          have HA := Lib.hid (add_call B S lc 0 1 (wr.drewN nq) (HK.out.sc.drewN nq) (by omega) (by omega) (by omega) (by omega))
          go_wp2_with fail
          refine HA.out.mono ?_
          rintro e w' ha
          obtain rfl := ha.1
          have HR := Lib.hid ((HK.out.drewN nq).step (i' := i + 1) (j' := j + 1) ha HE.out (by rw [add_tot]; omega))
          clear ha
          go_wp2
          go_roundg (la + lb - (i + 1) - (j + 1))
          case measure => omega
          case rel => exact ⟨i + 1, j + 1, _, by omega, by omega, by omega, by go_num, by go_num, HR⟩
        · have hq' : (za.getD i 0 == zb.getD j 0) = false := by simp only [beq_eq_false_iff_ne]; exact hq
          rw [if_neg hq] at hst
          have Hne := Lib.hid hq
          have HST := Lib.hid hst
          have htv := HK.out.tv
          have ht0 := cell_of_row _ _ 0 _ _ _ htv
          have ht1 := cell_of_row _ _ 1 _ _ _ htv
          have ht2 := cell_of_row _ _ 2 _ _ _ htv
          have ht3 := cell_of_row _ _ 3 _ _ _ htv
          simp at ht0 ht1 ht2 ht3
          generalize hv1 : za.getD i 0 = v1 at hc1 hq'
          generalize hv2 : zb.getD j 0 = v2 at hc2 hq'
          clear hq hst htv hv1 hv2
          go_wp2
          go_quiet (fail)
          rename_i nq
          have HM := Lib.hid (HMB.out (wr.drewN nq) (HK.out.tab.drewN nq) Hne.out)
          clear HMB
          go_wp2_with fail
          refine HM.out.mono ?_
          rintro e w5 ⟨rfl, hb5⟩
          have HK5 := Lib.hid ((HK.out.drewN nq).other hb5)
          clear hb5 HM ht0 ht1 ht2 ht3
          cases hmb : mbB za zb i j
          · have HE : Hid (pack (add lc 2 1) (steps (za.drop i) (zb.drop (j + 1))) = pack lc (steps (za.drop i) (zb.drop j))) := Lib.hid (by rw [HST.out, if_neg (by rw [hmb]; simp), pack_cons])
            have HA := Lib.hid (add_call B S lc 2 1 w5 HK5.out.sc (by omega) (by omega) (by omega) (by omega))
            clear HST hmb
            go_wp2_with fail
            refine HA.out.mono ?_
            rintro e w' ha
            obtain rfl := ha.1
            have HR := Lib.hid (HK5.out.step (i' := i) (j' := j + 1) ha HE.out (by rw [add_tot]; omega))
            clear ha
            go_wp2
            go_roundg (la + lb - i - (j + 1))
            case measure => omega
            case rel => exact ⟨i, j + 1, _, by omega, by omega, by omega, rfl, by go_num, HR⟩
          · have HE : Hid (pack (add lc 1 1) (steps (za.drop (i + 1)) (zb.drop j)) = pack lc (steps (za.drop i) (zb.drop j))) := Lib.hid (by rw [HST.out, if_pos hmb, pack_cons])
            have HA := Lib.hid (add_call B S lc 1 1 w5 HK5.out.sc (by omega) (by omega) (by omega) (by omega))
            clear HST hmb
            go_wp2_with fail
            refine HA.out.mono ?_
            rintro e w' ha
            obtain rfl := ha.1
            have HR := Lib.hid (HK5.out.step (i' := i + 1) (j' := j) ha HE.out (by rw [add_tot]; omega))
            clear ha
            go_wp2
            go_roundg (la + lb - (i + 1) - j)
            case measure => omega
            case rel => exact ⟨i + 1, j, _, by omega, by omega, by omega, by go_num, rfl, HR⟩
end Go.Proofs.Ytlaneilmffdahaa.Ln
