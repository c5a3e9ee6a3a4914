/- The document's Diff, walked. -/
import Derived.Test.YtlaneilmffdahaaLnRun
import Derived.Test.YtlaneilmffdahaaLnDiff
namespace Go.Proofs.Ytlaneilmffdahaa.Ln
open Go.RowKit
set_option linter.unusedVariables false
/-- the document's table behind w, made from cell k on -/
structure Rb (w wr : World) (sa sb : List ByteArray) (N k : Nat) : Prop where
  row : wr.rowIs w.heap.size 3 N (fun idx => .int .i64 ((part sa sb k idx : Nat) : Int))
  bel : Below w.heap.size w wr
theorem Rb.drewN {w wr : World} {sa sb : List ByteArray} {N k : Nat} (h : Rb w wr sa sb N k) (d : Nat) : Rb w (wr.drewN d) sa sb N k := ⟨h.row, below_drewN h.bel d⟩
theorem Rb.col {w wr : World} {sa sb : List ByteArray} {N i lb : Nat} (hb : sb.length = lb) (h : Rb w wr sa sb N ((i + 1) * (lb + 1))) : Rb w wr sa sb N (i * (lb + 1) + lb) :=
  ⟨h.row.congr (fun idx _ => by have := part_col sa sb i idx; rw [hb] at this; simp only [this]), h.bel⟩
theorem Rb.set_ {w wr : World} {sa sb : List ByteArray} {N k lb : Nat} (hb : sb.length = lb) (h : Rb w wr sa sb N (k + 1)) (x : Int) (hx : x = ((tcell sa sb (lb + 1) k : Nat) : Int)) : Rb w (wr.setCell ⟨w.heap.size, k, none⟩ (.int .i64 x)) sa sb N k := by
  subst hx
  refine ⟨(h.row.set k _).congr ?_, h.bel.setCell (Nat.le_refl _) _⟩
  intro idx _
  have := part_set sa sb k idx
  rw [hb] at this
  show (if idx = k then _ else _) = _
  rw [← this]
  split <;> rfl
/-- where the document's path stands -/
structure Pw (w wr : World) (sa sb : List ByteArray) (lb N i j : Nat) (lc : List (Nat × Nat)) (v : Value) : Prop where
  own : wr.ownsRow w.heap.size 82 2 v lc.length (ed lc)
  ht : lc.length ≤ tot lc
  ps : pack lc (steps (sa.drop i) (sb.drop j)) = scr sa sb
  tt : tot lc ≤ i + j
  row : wr.rowIs w.heap.size 3 N (fun idx => .int .i64 ((tcell sa sb (lb + 1) idx : Nat) : Int))
  bel : Below w.heap.size w wr
theorem Pw.drewN {w wr : World} {sa sb : List ByteArray} {lb N i j : Nat} {lc : List (Nat × Nat)} {v : Value} (h : Pw w wr sa sb lb N i j lc v) (d : Nat) : Pw w (wr.drewN d) sa sb lb N i j lc v := ⟨h.own, h.ht, h.ps, h.tt, h.row, below_drewN h.bel d⟩
theorem Pw.step {w wr w' : World} {sa sb : List ByteArray} {lb N i j i' j' : Nat} {lc lc' : List (Nat × Nat)} {v v' : Value} (h : Pw w wr sa sb lb N i j lc v) (ho : w'.ownsRow w.heap.size 82 2 v' lc'.length (ed lc')) (ht : lc'.length ≤ tot lc') (hb : Below w.heap.size wr w') (hk : Kp [82] wr w')
    (hp : pack lc' (steps (sa.drop i') (sb.drop j')) = pack lc (steps (sa.drop i) (sb.drop j))) (ht' : tot lc' ≤ i' + j') : Pw w w' sa sb lb N i' j' lc' v' :=
  ⟨ho, ht, hp.trans h.ps, ht', hk.rowIs h.row (by decide), h.bel.trans hb⟩
theorem rsteps_drop (sa sb : List ByteArray) (i j : Nat) (hi : i < sa.length) (hj : j < sb.length) :
    steps (sa.drop i) (sb.drop j) = if sa.getD i ByteArray.empty = sb.getD j ByteArray.empty then 0 :: steps (sa.drop (i + 1)) (sb.drop (j + 1)) else if lcs (sa.drop i) (sb.drop (j + 1)) ≤ lcs (sa.drop (i + 1)) (sb.drop j) then 1 :: steps (sa.drop (i + 1)) (sb.drop j) else 2 :: steps (sa.drop i) (sb.drop (j + 1)) := by
  conv => lhs; rw [List.drop_eq_getElem_cons hi, List.drop_eq_getElem_cons hj, steps_cons]
  rw [← List.drop_eq_getElem_cons hi, ← List.drop_eq_getElem_cons hj]
  simp [hi, hj]
set_option maxRecDepth 100000 in
set_option maxHeartbeats 2000000 in
theorem rdiff_any (a : Option Addr) (la ca : Nat) (sa : List ByteArray) (b : Option Addr) (lb cb : Nat) (sb : List ByteArray) (w : World) (h1 : Rd w w.heap.size a la ca (sv sa)) (h2 : Rd w w.heap.size b lb cb (sv sb)) (l1 : la ≤ 4000) (l2 : lb ≤ 4000) :
    Calls Try.prog 50 #[.slice a la ca, .slice b lb cb] w (DiffRet (scr sa sb) w) := by
  have lsa : sa.length = la := by have := h1.hlen; simpa [sv] using this
  have lsb : sb.length = lb := by have := h2.hlen; simpa [sv] using this
  obtain ⟨N, HN⟩ : ∃ N, Hid (N = (la + 1) * (lb + 1)) := ⟨_, Lib.hid rfl⟩
  have hNb : N ≤ 16008001 := by rw [HN.out]; exact Nat.le_trans (Nat.mul_le_mul (show la + 1 ≤ 4001 by omega) (show lb + 1 ≤ 4001 by omega)) (Nat.le_of_eq rfl)
  have hm : IntKind.i64.wrap (((la : Int) + 1) * ((lb : Int) + 1)) = (N : Int) := by
    have e : ((la : Int) + 1) * ((lb : Int) + 1) = (N : Int) := by rw [HN.out]; simp
    rw [e]
    exact IntWalk.i64_in _ (by omega)
  have hmk := fun W => run_make_row' (P := Try.prog) 49 3 (.int .i64 0) 8 Try.underlying49 infoI rfl .i64 .i64 N (by omega) (by omega) W
  have H1 := Lib.hid h1
  have H2 := Lib.hid h2
  have L1 := Lib.hid lsa
  have L2 := Lib.hid lsb
  clear h1 h2 lsa lsb
  go_enter Try.func50, Try.ntmps50
  go_upto_block 0 with (fail)
  have hT : Hid (Rb w (w.alloc (.cells (madeCells #[.int .i64 0] N) 3)) sa sb N (la * (lb + 1))) := Lib.hid ⟨(World.rowIs_made w (.int .i64 0) N 3).congr (fun idx _ => by
      have := part_start sa sb idx
      rw [L1.out, L2.out] at this
      simp only [this]; rfl), (Below.refl _ w).alloc (Nat.le_refl _) _⟩
  clear hm hmk
  generalize World.alloc _ _ = W1 at *
  go_cut [7] (fun s7 wx => s7 = .slice (some ⟨w.heap.size, 0, none⟩) N N ∧ Hid (Rb w wx sa sb N 0))
  case first =>
    go_wp2
    go_loopw [8] (fun s8 wr => ∃ i : Nat, i ≤ la ∧ s8 = .int .i64 ((i : Int) - 1) ∧ Hid (Rb w wr sa sb N (i * (lb + 1)))) (fun s8 _ => (intOf s8 + 1).toNat)
    case atStart => exact ⟨la, Nat.le_refl _, rfl, hT⟩
    case round =>
      obtain ⟨i, hi, rfl, HI⟩ := hrel
      clear hT
      by_cases h0 : 0 < i
      · obtain ⟨r, rfl⟩ : ∃ r, i = r + 1 := ⟨i - 1, by omega⟩
        rw [show (((r + 1 : Nat) : Int) - 1) = (r : Int) from by omega]
        obtain ⟨p, HP⟩ : ∃ p, Hid (p = r * (lb + 1)) := ⟨_, Lib.hid rfl⟩
        obtain ⟨q, HQ⟩ : ∃ q, Hid (q = p + (lb + 1)) := ⟨_, Lib.hid rfl⟩
        have hqN : q + lb < N := by
          rw [HQ.out, HP.out, HN.out]
          have := Nat.mul_le_mul_right (lb + 1) (show r + 1 + 1 ≤ la + 1 by omega)
          rw [Nat.add_mul, Nat.add_mul] at this
          omega
        have hpq : p + lb < q := by have := HQ.out; omega
        have HC := Lib.hid (HI.out.col L2.out)
        go_wp2
        go_loopw [9] (fun s9 wx => ∃ j : Nat, j ≤ lb ∧ s9 = .int .i64 ((j : Int) - 1) ∧ Hid (Rb w wx sa sb N (p + j))) (fun s9 _ => (intOf s9 + 1).toNat)
        case atStart => exact ⟨lb, Nat.le_refl _, rfl, Lib.hid (by rw [HP.out]; exact HC.out)⟩
        case round =>
          obtain ⟨j, hj, rfl, HJ⟩ := hrel
          clear HC
          by_cases h1 : 0 < j
          · obtain ⟨c, rfl⟩ : ∃ c, j = c + 1 := ⟨j - 1, by omega⟩
            rw [show (((c + 1 : Nat) : Int) - 1) = (c : Int) from by omega]
            have hm1 : IntKind.i64.wrap ((r : Int) * ((lb : Int) + 1)) = (p : Int) := by
              have e : (r : Int) * ((lb : Int) + 1) = (p : Int) := by rw [HP.out]; simp
              rw [e]; exact IntWalk.i64_in _ (by omega)
            have hm2 : IntKind.i64.wrap (((r : Int) + 1) * ((lb : Int) + 1)) = (q : Int) := by
              have e : ((r : Int) + 1) * ((lb : Int) + 1) = (q : Int) := by rw [HQ.out, HP.out]; simp [Int.add_mul]
              rw [e]; exact IntWalk.i64_in _ (by omega)
            obtain ⟨x1, o1, rfl, hb1, hc1⟩ := (H1.out.below HJ.out.bel).str r (by omega)
            obtain ⟨x2, o2, rfl, hb2, hc2⟩ := (H2.out.below HJ.out.bel).str c (by omega)
            have hA1 : r < sa.length := by rw [L1.out]; omega
            have hB1 : c < sb.length := by rw [L2.out]; omega
            have hstep := tcell_step sa sb r c hA1 hB1
            have hub1 := lcs_right_succ (sb[c]) (sa.drop (r + 1)) (sb.drop (c + 1))
            have hub2 := lcs_left_succ (sa[r]) (sa.drop (r + 1)) (sb.drop (c + 1))
            rw [← List.drop_eq_getElem_cons hB1] at hub1
            rw [← List.drop_eq_getElem_cons hA1] at hub2
            rw [← tcell_at sa sb (lb + 1) (r + 1) (c + 1) (by omega), ← tcell_at sa sb (lb + 1) (r + 1) c (by omega)] at hub1
            rw [← tcell_at sa sb (lb + 1) (r + 1) (c + 1) (by omega), ← tcell_at sa sb (lb + 1) r (c + 1) (by omega)] at hub2
            rw [L2.out] at hstep
            rw [← HP.out, show (r + 1) * (lb + 1) = q from by rw [HQ.out, HP.out, Nat.add_mul]; omega] at hstep hub2
            rw [show (r + 1) * (lb + 1) = q from by rw [HQ.out, HP.out, Nat.add_mul]; omega] at hub1
            have hv1 : sa.getD r ByteArray.empty = sa[r] := by simp [List.getD, hA1]
            have hv2 : sb.getD c ByteArray.empty = sb[c] := by simp [List.getD, hB1]
            rw [← hv1, ← hv2] at hstep
            generalize sa.getD r ByteArray.empty = v1 at hc1 hstep
            generalize sb.getD c ByteArray.empty = v2 at hc2 hstep
            have g1 := HJ.out.row.cell (i := q + (c + 1)) (by omega)
            have g2 := HJ.out.row.cell (i := q + c) (by omega)
            have g3 := HJ.out.row.cell (i := p + (c + 1)) (by omega)
            have g4 := HJ.out.row.cell (i := p + c) (by omega)
            have g5 := HJ.out.row.frozen (p + c)
            have l1' := tcell_le sa sb (lb + 1) (q + (c + 1))
            have l2' := tcell_le sa sb (lb + 1) (q + c)
            have l3' := tcell_le sa sb (lb + 1) (p + (c + 1))
            rw [L1.out] at l1' l2' l3'
            simp only [part, L2.out] at g1 g2 g3 g4
            rw [if_pos (by omega)] at g1 g2 g3
            rw [if_neg (by omega)] at g4
            rw [← Nat.add_assoc] at g1 g3
            have HK := Lib.hid hstep
            generalize hx1 : tcell sa sb (lb + 1) (q + (c + 1)) = t1 at *
            generalize hx2 : tcell sa sb (lb + 1) (q + c) = t2 at *
            generalize hx3 : tcell sa sb (lb + 1) (p + (c + 1)) = t3 at *
            clear hx1 hx2 hx3 hstep hv1 hv2
            have hw1 : IntKind.i64.wrap ((q : Int) + (c : Int)) = (q : Int) + (c : Int) := IntWalk.i64_in _ (by omega)
            have hw2 : IntKind.i64.wrap ((p : Int) + (c : Int)) = (p : Int) + (c : Int) := IntWalk.i64_in _ (by omega)
            have hw3 : IntKind.i64.wrap ((p : Int) + (c : Int) + 1) = (p : Int) + (c : Int) + 1 := IntWalk.i64_in _ (by omega)
            by_cases hq : v1 = v2
            · have HV := Lib.hid (show tcell sa sb (lb + 1) (p + c) = t1 + 1 from by rw [HK.out, if_pos hq])
              have hq' : (v1.toList == v2.toList) = true := str_eq.2 hq
              clear hq HK
              rcases Nat.lt_or_ge t2 t3 with hmx | hmx
              all_goals
                go_wp2
                go_region
                go_wp2
                go_quiet (fail)
                go_wp2
                go_roundw
                case rel => exact ⟨c, by omega, rfl, Lib.hid (Rb.set_ L2.out (k := p + c) (by exact HJ.out.drewN _) _ (by rw [HV.out]; omega))⟩
                case measure => simp [intOf]
            · have HV := Lib.hid (show tcell sa sb (lb + 1) (p + c) = max t2 t3 from by rw [HK.out, if_neg hq])
              have hq' : (v1.toList == v2.toList) = false := by
                cases e : (v1.toList == v2.toList)
                · rfl
                · exact absurd (str_eq.1 e) hq
              clear hq HK
              rcases Nat.lt_or_ge t2 t3 with hmx | hmx
              all_goals
                go_wp2
                go_region
                go_wp2
                go_quiet (fail)
                go_wp2
                go_roundw
                case rel => exact ⟨c, by omega, rfl, Lib.hid (Rb.set_ L2.out (k := p + c) (by exact HJ.out.drewN _) _ (by rw [HV.out]; omega))⟩
                case measure => simp [intOf]
          · obtain rfl : j = 0 := by omega
            rw [show (((0 : Nat) : Int) - 1) = -1 from rfl]
            go_wp2
            go_roundw
            case rel => exact ⟨r, by omega, rfl, Lib.hid (by rw [← HP.out]; exact HJ.out)⟩
            case measure => simp [intOf]
      · obtain rfl : i = 0 := by omega
        rw [show (((0 : Nat) : Int) - 1) = -1 from rfl]
        have HI0 := Lib.hid (show Rb w _ sa sb N 0 from by have := HI.out; rw [Nat.zero_mul] at this; exact this)
        clear HI
        go_wp2
        go_meet
        exact ⟨rfl, HI0⟩
  case rest =>
    obtain ⟨rfl, HT⟩ := hcut
    clear hT
    go_wp2
    have HP : Hid (Pw w _ sa sb lb N 0 0 [] (.slice none 0 0)) := Lib.hid ⟨World.ownsRow_nil _ _ _ _, by simp [tot], by simp [scr], by simp [tot], HT.out.row.congr (fun idx _ => by simp [part, L2.out]), HT.out.bel⟩
    clear HT
    go_loopw [11, 12, 13] (fun s11 s12 s13 wr => ∃ (i j : Nat) (lc : List (Nat × Nat)), i ≤ la ∧ j ≤ lb ∧ s12 = .int .i64 i ∧ s13 = .int .i64 j ∧ Hid (Pw w wr sa sb lb N i j lc s11)) (fun _ s12 s13 _ => (la - (intOf s12).toNat) + (lb - (intOf s13).toNat))
    case atStart => exact ⟨0, 0, [], Nat.zero_le _, Nat.zero_le _, rfl, rfl, HP⟩
    case round =>
      clear HP
      obtain ⟨i, j, lc, hi, hj, rfl, rfl, HP⟩ := hrel
      obtain ⟨A11, N11, C11, rfl⟩ := own_slice HP.out.own
      have htt := HP.out.tt
      have HRUN := Lib.hid (fun (n : Nat) (op : Int) (o0 : 0 ≤ op) => run_any w.heap.size (.slice A11 N11 C11) lc op (wr.drewN n) (HP.out.drewN n).own HP.out.ht (by omega) (HP.out.drewN n).bel.size o0)
      by_cases hia : i < la
      · have hd1 : decide (i < la) = true := by simp; omega
        obtain ⟨p, HPP⟩ : ∃ p, Hid (p = i * (lb + 1)) := ⟨_, Lib.hid rfl⟩
        obtain ⟨q, HQ⟩ : ∃ q, Hid (q = p + (lb + 1)) := ⟨_, Lib.hid rfl⟩
        have hqN : q + lb < N := by
          rw [HQ.out, HPP.out, HN.out]
          have := Nat.mul_le_mul_right (lb + 1) (show i + 1 + 1 ≤ la + 1 by omega)
          rw [Nat.add_mul, Nat.add_mul] at this
          omega
        have hpq : p + lb < q := by have := HQ.out; omega
        have eq1 : (i + 1) * (lb + 1) = q := by rw [HQ.out, HPP.out, Nat.add_mul]; omega
        have g1 := HP.out.row.cell (i := p + j) (by omega)
        have g2 := HP.out.row.cell (i := q + j) (by omega)
        have b1 := tcell_le sa sb (lb + 1) (p + j)
        have b2 := tcell_le sa sb (lb + 1) (q + j)
        rw [L1.out] at b1 b2
        (try simp only at g1 g2)
        by_cases hjb : j < lb
        · have hd2 : decide (j < lb) = true := by simp; omega
          have g3 := HP.out.row.cell (i := q + (j + 1)) (by omega)
          have b3 := tcell_le sa sb (lb + 1) (q + (j + 1))
          rw [L1.out] at b3
          (try simp only at g3)
          rw [← Nat.add_assoc] at g3
          obtain ⟨x1, o1, rfl, hb1, hc1⟩ := (H1.out.below HP.out.bel).str i hia
          obtain ⟨x2, o2, rfl, hb2, hc2⟩ := (H2.out.below HP.out.bel).str j hjb
          have hst := rsteps_drop sa sb i j (by rw [L1.out]; exact hia) (by rw [L2.out]; exact hjb)
          have hstep := tcell_step sa sb i j (by rw [L1.out]; exact hia) (by rw [L2.out]; exact hjb)
          have hv1 : sa.getD i ByteArray.empty = sa[i]'(by rw [L1.out]; exact hia) := by simp [List.getD, show i < sa.length from by rw [L1.out]; exact hia]
          have hv2 : sb.getD j ByteArray.empty = sb[j]'(by rw [L2.out]; exact hjb) := by simp [List.getD, show j < sb.length from by rw [L2.out]; exact hjb]
          rw [← hv1, ← hv2, L2.out, ← HPP.out, eq1] at hstep
          have e3 : lcs (sa.drop i) (sb.drop (j + 1)) = tcell sa sb (lb + 1) (p + (j + 1)) := by rw [HPP.out, tcell_at _ _ _ _ _ (by omega)]
          have e2 : lcs (sa.drop (i + 1)) (sb.drop j) = tcell sa sb (lb + 1) (q + j) := by rw [← eq1, tcell_at _ _ _ _ _ (by omega)]
          rw [e3, e2] at hst
          generalize sa.getD i ByteArray.empty = v1 at hc1 hst hstep
          generalize sb.getD j ByteArray.empty = v2 at hc2 hst hstep
          have HST := Lib.hid hst
          have HSP := Lib.hid hstep
          generalize tcell sa sb (lb + 1) (p + j) = t0 at *
          generalize tcell sa sb (lb + 1) (q + (j + 1)) = t1 at *
          generalize tcell sa sb (lb + 1) (q + j) = t2 at *
          generalize tcell sa sb (lb + 1) (p + (j + 1)) = t3 at *
          clear hst hstep e3 e2 hv1 hv2 eq1
          by_cases hq : v1 = v2
          · have hq' : (v1.toList == v2.toList) = true := str_eq.2 hq
            have HE : Hid (pack (add lc 0 1) (steps (sa.drop (i + 1)) (sb.drop (j + 1))) = pack lc (steps (sa.drop i) (sb.drop j))) := Lib.hid (by rw [HST.out, if_pos hq, pack_cons])
            have ht0 : ((t0 : Int) == (t1 : Int) + 1) = true := by have := HSP.out; rw [if_pos hq] at this; simp; omega
            have hm1 : IntKind.i64.wrap ((i : Int) * ((lb : Int) + 1)) = (p : Int) := by
              have e : (i : Int) * ((lb : Int) + 1) = (p : Int) := by rw [HPP.out]; simp
              rw [e]; exact IntWalk.i64_in _ (by omega)
            have hm2 : IntKind.i64.wrap (((i : Int) + 1) * ((lb : Int) + 1)) = (q : Int) := by
              have e : ((i : Int) + 1) * ((lb : Int) + 1) = (q : Int) := by rw [HQ.out, HPP.out]; simp [Int.add_mul]
              rw [e]; exact IntWalk.i64_in _ (by omega)
            have hw0 : IntKind.i64.wrap ((i : Int) + 1) = (i : Int) + 1 := IntWalk.i64_in _ (by omega)
            have hw1 : IntKind.i64.wrap ((p : Int) + (j : Int)) = (p : Int) + (j : Int) := IntWalk.i64_in _ (by omega)
            have hw2 : IntKind.i64.wrap ((q : Int) + (j : Int)) = (q : Int) + (j : Int) := IntWalk.i64_in _ (by omega)
            have hw3 : IntKind.i64.wrap ((q : Int) + (j : Int) + 1) = (q : Int) + (j : Int) + 1 := IntWalk.i64_in _ (by omega)
            clear hq HST HSP
            go_wp2
            go_quiet (fail)
            clear hm1 hm2 hw0 hw1 hw2 hw3
            go_wp2_with fail
            refine (HRUN.out _ 0 (by omega)).mono ?_
            rintro e w' ⟨v', rfl, ho', ht', hb', hk'⟩
            have HR := Lib.hid ((HP.out.drewN _).step (i' := i + 1) (j' := j + 1) ho' ht' hb' hk' HE.out (by rw [add_tot]; omega))
            clear ho' ht' hb' hk'
            go_wp2
            go_roundw
            case rel => exact ⟨i + 1, j + 1, _, by omega, by omega, by go_num, by go_num, HR⟩
            case measure => simp [intOf]; omega
          · have hq' : (v1.toList == v2.toList) = false := by
              cases e : (v1.toList == v2.toList)
              · rfl
              · exact absurd (str_eq.1 e) hq
            by_cases hmx : t3 ≤ t2
            · have HE : Hid (pack (add lc 1 1) (steps (sa.drop (i + 1)) (sb.drop j)) = pack lc (steps (sa.drop i) (sb.drop j))) := Lib.hid (by rw [HST.out, if_neg hq, if_pos hmx, pack_cons])
              have ht0 : ((t0 : Int) == (t2 : Int)) = true := by have := HSP.out; rw [if_neg hq] at this; simp; omega
              have hm1 : IntKind.i64.wrap ((i : Int) * ((lb : Int) + 1)) = (p : Int) := by
                have e : (i : Int) * ((lb : Int) + 1) = (p : Int) := by rw [HPP.out]; simp
                rw [e]; exact IntWalk.i64_in _ (by omega)
              have hm2 : IntKind.i64.wrap (((i : Int) + 1) * ((lb : Int) + 1)) = (q : Int) := by
                have e : ((i : Int) + 1) * ((lb : Int) + 1) = (q : Int) := by rw [HQ.out, HPP.out]; simp [Int.add_mul]
                rw [e]; exact IntWalk.i64_in _ (by omega)
              have hw0 : IntKind.i64.wrap ((i : Int) + 1) = (i : Int) + 1 := IntWalk.i64_in _ (by omega)
              have hw1 : IntKind.i64.wrap ((p : Int) + (j : Int)) = (p : Int) + (j : Int) := IntWalk.i64_in _ (by omega)
              have hw2 : IntKind.i64.wrap ((q : Int) + (j : Int)) = (q : Int) + (j : Int) := IntWalk.i64_in _ (by omega)
              have hw3 : IntKind.i64.wrap ((q : Int) + (j : Int) + 1) = (q : Int) + (j : Int) + 1 := IntWalk.i64_in _ (by omega)
              clear hq HST HSP hmx
              go_wp2
              go_quiet (fail)
              go_wp2
              go_quiet (fail)
              clear hm1 hm2 hw0 hw1 hw2 hw3
              go_wp2_with fail
              refine (HRUN.out _ 1 (by omega)).mono ?_
              rintro e w' ⟨v', rfl, ho', ht', hb', hk'⟩
              have HR := Lib.hid ((HP.out.drewN _).step (i' := i + 1) (j' := j) ho' ht' hb' hk' HE.out (by rw [add_tot]; omega))
              clear ho' ht' hb' hk'
              go_wp2
              go_roundw
              case rel => exact ⟨i + 1, j, _, by omega, by omega, by go_num, rfl, HR⟩
              case measure => simp [intOf]; omega
            · have HE : Hid (pack (add lc 2 1) (steps (sa.drop i) (sb.drop (j + 1))) = pack lc (steps (sa.drop i) (sb.drop j))) := Lib.hid (by rw [HST.out, if_neg hq, if_neg hmx, pack_cons])
              have ht0 : ((t0 : Int) == (t2 : Int)) = false := by have := HSP.out; rw [if_neg hq] at this; simp; omega
              have hm1 : IntKind.i64.wrap ((i : Int) * ((lb : Int) + 1)) = (p : Int) := by
                have e : (i : Int) * ((lb : Int) + 1) = (p : Int) := by rw [HPP.out]; simp
                rw [e]; exact IntWalk.i64_in _ (by omega)
              have hm2 : IntKind.i64.wrap (((i : Int) + 1) * ((lb : Int) + 1)) = (q : Int) := by
                have e : ((i : Int) + 1) * ((lb : Int) + 1) = (q : Int) := by rw [HQ.out, HPP.out]; simp [Int.add_mul]
                rw [e]; exact IntWalk.i64_in _ (by omega)
              have hw0 : IntKind.i64.wrap ((i : Int) + 1) = (i : Int) + 1 := IntWalk.i64_in _ (by omega)
              have hw1 : IntKind.i64.wrap ((p : Int) + (j : Int)) = (p : Int) + (j : Int) := IntWalk.i64_in _ (by omega)
              have hw2 : IntKind.i64.wrap ((q : Int) + (j : Int)) = (q : Int) + (j : Int) := IntWalk.i64_in _ (by omega)
              have hw3 : IntKind.i64.wrap ((q : Int) + (j : Int) + 1) = (q : Int) + (j : Int) + 1 := IntWalk.i64_in _ (by omega)
              clear hq HST HSP hmx
              go_wp2
              go_quiet (fail)
              go_wp2
              go_quiet (fail)
              clear hm1 hm2 hw0 hw1 hw2 hw3
              go_wp2_with fail
              refine (HRUN.out _ 2 (by omega)).mono ?_
              rintro e w' ⟨v', rfl, ho', ht', hb', hk'⟩
              have HR := Lib.hid ((HP.out.drewN _).step (i' := i) (j' := j + 1) ho' ht' hb' hk' HE.out (by rw [add_tot]; omega))
              clear ho' ht' hb' hk'
              go_wp2
              go_roundw
              case rel => exact ⟨i, j + 1, _, by omega, by omega, rfl, by go_num, HR⟩
              case measure => simp [intOf]; omega
        · obtain rfl : j = lb := by omega
          have hd2 : decide (j < j) = false := by simp
          have e1 : tcell sa sb (j + 1) (p + j) = 0 := by rw [HPP.out]; have := tcell_col sa sb i; rw [L2.out] at this; exact this
          have e2 : tcell sa sb (j + 1) (q + j) = 0 := by rw [← eq1]; have := tcell_col sa sb (i + 1); rw [L2.out] at this; exact this
          rw [e1] at g1
          rw [e2] at g2
          have HE : Hid (pack (add lc 1 1) (steps (sa.drop (i + 1)) (sb.drop j)) = pack lc (steps (sa.drop i) (sb.drop j))) := Lib.hid (by
            rw [show sb.drop j = [] from List.drop_eq_nil_of_le (by rw [L2.out]; exact Nat.le_refl _), steps_nil_right, steps_nil_right, List.length_drop, List.length_drop, L1.out, show la - i = la - (i + 1) + 1 from by omega, List.replicate_succ, pack_cons])
          have hm1 : IntKind.i64.wrap ((i : Int) * ((j : Int) + 1)) = (p : Int) := by
            have e : (i : Int) * ((j : Int) + 1) = (p : Int) := by rw [HPP.out]; simp
            rw [e]; exact IntWalk.i64_in _ (by omega)
          have hm2 : IntKind.i64.wrap (((i : Int) + 1) * ((j : Int) + 1)) = (q : Int) := by
            have e : ((i : Int) + 1) * ((j : Int) + 1) = (q : Int) := by rw [HQ.out, HPP.out]; simp [Int.add_mul]
            rw [e]; exact IntWalk.i64_in _ (by omega)
          have hw0 : IntKind.i64.wrap ((i : Int) + 1) = (i : Int) + 1 := IntWalk.i64_in _ (by omega)
          have hw1 : IntKind.i64.wrap ((p : Int) + (j : Int)) = (p : Int) + (j : Int) := IntWalk.i64_in _ (by omega)
          have hw2 : IntKind.i64.wrap ((q : Int) + (j : Int)) = (q : Int) + (j : Int) := IntWalk.i64_in _ (by omega)
          have hw3 : IntKind.i64.wrap ((q : Int) + (j : Int) + 1) = (q : Int) + (j : Int) + 1 := IntWalk.i64_in _ (by omega)
          clear e1 e2 eq1
          go_wp2
          go_quiet (fail)
          go_wp2
          go_quiet (fail)
          clear hm1 hm2 hw0 hw1 hw2 hw3
          go_wp2_with fail
          refine (HRUN.out _ 1 (by omega)).mono ?_
          rintro e w' ⟨v', rfl, ho', ht', hb', hk'⟩
          have HR := Lib.hid ((HP.out.drewN _).step (i' := i + 1) (j' := j) ho' ht' hb' hk' HE.out (by rw [add_tot]; omega))
          clear ho' ht' hb' hk'
          go_wp2
          go_roundw
          case rel => exact ⟨i + 1, j, _, by omega, by omega, by go_num, rfl, HR⟩
          case measure => simp [intOf]; omega
      · obtain rfl : i = la := by omega
        have hd1 : decide (i < i) = false := by simp
        by_cases hjb : j < lb
        · have hd2 : decide (j < lb) = true := by simp; omega
          have HE : Hid (pack (add lc 2 1) (steps (sa.drop i) (sb.drop (j + 1))) = pack lc (steps (sa.drop i) (sb.drop j))) := Lib.hid (by
            rw [show sa.drop i = [] from List.drop_eq_nil_of_le (by rw [L1.out]; exact Nat.le_refl _), steps_nil_left, steps_nil_left, List.length_drop, List.length_drop, L2.out, show lb - j = lb - (j + 1) + 1 from by omega, List.replicate_succ, pack_cons])
          go_wp2
          go_quiet (fail)
          go_wp2
          go_quiet (fail)
          go_wp2_with fail
          refine (HRUN.out _ 2 (by omega)).mono ?_
          rintro e w' ⟨v', rfl, ho', ht', hb', hk'⟩
          have HR := Lib.hid ((HP.out.drewN _).step (i' := i) (j' := j + 1) ho' ht' hb' hk' HE.out (by rw [add_tot]; omega))
          clear ho' ht' hb' hk'
          go_wp2
          go_roundw
          case rel => exact ⟨i, j + 1, _, by omega, by omega, rfl, by go_num, HR⟩
          case measure => simp [intOf]; omega
        · obtain rfl : j = lb := by omega
          have hd2 : decide (j < j) = false := by simp
          have HE : Hid (lc = scr sa sb) := Lib.hid (by
            rw [← HP.out.ps, show sa.drop i = [] from List.drop_eq_nil_of_le (by rw [L1.out]; exact Nat.le_refl _), show sb.drop j = [] from List.drop_eq_nil_of_le (by rw [L2.out]; exact Nat.le_refl _), steps_nil_left]
            rfl)
          go_wp2
          go_ret2
          have h1 := HP.out.own
          have h2 := HP.out.ht
          rw [HE.out] at h1 h2
          exact ⟨_, rfl, h1, h2, HP.out.bel⟩
end Go.Proofs.Ytlaneilmffdahaa.Ln
