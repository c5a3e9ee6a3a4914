/- The document's Apply, walked. -/
import Derived.Test.YtfgmnfcakeenmaaLnApply
namespace Go.Proofs.Ytfgmnfcakeenmaa.Ln
open Go.RowKit
set_option linter.unusedVariables false

set_option maxRecDepth 100000 in
set_option maxHeartbeats 4000000 in
theorem rapply_any (a : Option Addr) (la ca : Nat) (sa : List ByteArray) (ea : Option Addr) (le ce : Nat) (es : List (Int × Int)) (b : Option Addr) (lb cb : Nat) (sb : List ByteArray) (w : World) (h1 : Rd w w.heap.size a la ca (sv sa)) (he : RdE w w.heap.size ea le ce es) (h2 : Rd w w.heap.size b lb cb (sv sb))
    (hwf : ∀ x ∈ es, -9223372036854775808 ≤ x.2 ∧ x.2 ≤ 9223372036854775807) (hsz : la + lb ≤ 8000000) :
    Calls Try.prog 17 #[.slice a la ca, .slice ea le ce, .slice b lb cb] w (ApRet (apS none sa es sb []) w) := by
  have lsa : sa.length = la := by have := h1.hlen; simpa [sv] using this
  have lsb : sb.length = lb := by have := h2.hlen; simpa [sv] using this
  have les := he.hlen
  have lbig := he.hbig
  have lcap := he.hcap
  have lmax := he.hmax
  have H1 := Lib.hid h1
  have H2 := Lib.hid h2
  have HE := Lib.hid he
  have HWF := Lib.hid hwf
  have L1 := Lib.hid lsa
  have L2 := Lib.hid lsb
  clear h1 h2 he hwf lsa lsb
  go_enter Try.func17, Try.ntmps17
  go_wp2
  go_loopw [8, 9, 10, 11] (fun s8 s9 s10 s11 wr => ∃ (k i j : Nat) (out : List ByteArray), k ≤ le ∧ i ≤ la ∧ j ≤ lb ∧ s11 = .int .i64 k ∧ s9 = .int .i64 i ∧ s10 = .int .i64 j ∧ Hid (wr.ownsRow w.heap.size 9 1 s8 out.length (sv out) ∧ Below w.heap.size w wr) ∧ Hid (apS (if k = 0 then none else some (es.getD (k - 1) (0, 0)).1) (sa.drop i) (es.drop k) (sb.drop j) out = apS none sa es sb []) ∧ out.length ≤ i + j) (fun _ _ _ s11 _ => le - (intOf s11).toNat)
  case atStart => exact ⟨0, 0, 0, [], Nat.zero_le _, Nat.zero_le _, Nat.zero_le _, rfl, rfl, rfl, Lib.hid ⟨World.ownsRow_nil _ _ _ _, Below.refl _ _⟩, Lib.hid (by simp), by simp⟩
  case round =>
    obtain ⟨k, i, j, out, hk, hi, hj, rfl, rfl, rfl, HO, HR, hsum⟩ := hrel
    obtain ⟨Ao, No, Co, rfl⟩ := own_slice HO.out.1
    have hba := HO.out.2.size
    by_cases hlt : k < le
    · have hk2 : k < es.length := by omega
      obtain ⟨xe, oe, rfl, hbe, e1, e2⟩ := (HE.out.below HO.out.2).hcell k hk2
      have hxlt : xe < wr.heap.size := by omega
      have hcons : es.drop k = es[k] :: es.drop (k + 1) := List.drop_eq_getElem_cons hk2
      have hw := HWF.out es[k] (List.getElem_mem hk2)
      have hgk : es.getD k (0, 0) = es[k] := by simp [List.getD, hk2]
      have hr := HR.out
      rw [hcons] at hr
      have HGK := Lib.hid hgk
      clear hcons hgk
      obtain ⟨op, n, hxe⟩ : ∃ op n, es[k] = (op, n) := ⟨_, _, rfl⟩
      rw [hxe] at e1 e2 hr hw HGK
      simp only at e1 e2 hw
      clear hxe
      by_cases hop : op = 0 ∨ op = 1 ∨ op = 2
      · rcases hop with rfl | rfl | rfl
        · by_cases hn : n < 1
          · rw [apS_small (by simp) hn] at hr
            have HRR := Lib.hid hr
            have hdn : decide (n < 1) = true := by simp; omega
            clear hr
            go_wp2
            go_ret2
            rw [← HRR.out]
            exact apRet_no _ _ _ (HO.out.2.alloc hba _)
          · have hdn : decide (n < 1) = false := by simp; omega
            by_cases hk0 : k = 0
            · have hprev : (if k = 0 then (none : Option Int) else some (es.getD (k - 1) (0, 0)).1) ≠ some 0 := by
                rw [if_pos hk0]; simp
              have hdk : decide (0 < k) = false := decide_eq_false (by omega)
              have hll : (sa.drop i).length = la - i := by rw [List.length_drop, L1.out]
              by_cases hlen : ((sa.drop i).length : Int) < n
              · rw [apS_long0 hn hprev hlen] at hr
                have HRR := Lib.hid hr
                have hdl : decide ((la : Int) - (i : Int) < n) = true := decide_eq_true (by omega)
                clear hr hprev hlen hll HR hk0
                go_wp2
                go_quiet (fail)
                skip
                go_wp2
                go_ret2
                rw [← HRR.out]
                exact apRet_no _ _ _ (below_drewN (HO.out.2.alloc hba _) _)
              · rw [apS_zero hn hprev hlen] at hr
                obtain ⟨m, rfl⟩ : ∃ m : Nat, n = (m : Int) := ⟨n.toNat, by omega⟩
                rw [Int.toNat_natCast] at hr
                rw [List.drop_drop] at hr
                have hml : m ≤ la - i := by omega
                have hdl : decide ((la : Int) - (i : Int) < (m : Int)) = false := decide_eq_false (by omega)
                have HRR : Hid (apS (if k + 1 = 0 then none else some (es.getD (k + 1 - 1) (0, 0)).1) _ (es.drop (k + 1)) _ _ = apS none sa es sb []) := Lib.hid (by rw [if_neg (by omega), Nat.add_sub_cancel, HGK.out]; exact hr)
                clear hr hprev hlen hll HR hk0
                have hq1 := H1.out.hcap
                have hq2 := H1.out.hmax
                obtain ⟨A9, hA9⟩ : ∃ A, (if ca = i then a else Option.map (fun x => x.add i) a) = A := ⟨_, rfl⟩
                have HRU := Lib.hid (fun (W : World) (hW : Below w.heap.size w W) => (show Rd W w.heap.size A9 m (ca - i) (sv ((sa.drop i).take m)) by
                  have := ((H1.out.below hW).cut i (by omega)).take m (by omega)
                  rw [hA9, show ((sv sa).drop i).take m = sv ((sa.drop i).take m) from by simp [sv]] at this
                  exact this))
                have hbnd : (out.length + m) * 16 ≤ 140737488355328 := by omega
                go_wp2_with fail
                go_quiet (fail)
                skip
                rename_i nq
                have hbl := below_drewN ((HO.out.2.alloc hba) (Obj.cells #[.int .i64 0, .int .i64 (m : Int)] 48)) nq
                have HBL := Lib.hid hbl
                have HOW := Lib.hid (show ((wr.alloc (Obj.cells #[.int .i64 0, .int .i64 (m : Int)] 48)).drewN nq).ownsRow w.heap.size 9 1 (.slice Ao No Co) out.length (sv out) from HO.out.1.alloc _)
                have hX : ((wr.alloc (Obj.cells #[.int .i64 0, .int .i64 (m : Int)] 48)).drewN nq).heap[wr.heap.size]? = some (.cells #[.int .i64 0, .int .i64 (m : Int)] 48 (0, 0)) := heap_alloc_new wr _
                generalize World.drewN _ _ = wq at *
                have cx0 := (cell_of_row wq wr.heap.size 0 _ _ _ hX).trans (show (#[Value.int .i64 0, .int .i64 (m : Int)] : Array Value)[0]? = some (.int .i64 0) from rfl)
                have cx1 := (cell_of_row wq wr.heap.size 1 _ _ _ hX).trans (show (#[Value.int .i64 0, .int .i64 (m : Int)] : Array Value)[1]? = some (.int .i64 (m : Int)) from rfl)
                have HX := Lib.hid hX
                have hsq : w.heap.size ≤ wq.heap.size := HBL.out.size
                clear hX hbl
                go_wp2_with (at_builtin; refine wpList_append_strs _ rfl _ _ rfl w.heap.size (.slice Ao No Co) out.length out rfl HOW.out w.heap.size A9 m (ca - i) ((sa.drop i).take m) ?hx (HRU.out _ HBL.out) (out.length + m) rfl (out ++ (sa.drop i).take m) rfl hbnd hsq ?_)
                case hx =>
                  show Value.slice _ _ _ = _
                  simp only [Nat.add_sub_cancel_left]
                intro A5 C5 w5 ho5 hb5 hk5
                have hX5 := hk5.block _ _ _ _ HX.out (by decide)
                have dx1 := (cell_of_row w5 wr.heap.size 1 _ _ _ hX5).trans (show (#[Value.int .i64 0, .int .i64 (m : Int)] : Array Value)[1]? = some (.int .i64 (m : Int)) from rfl)
                have hlo : out.length + m = (out ++ (sa.drop i).take m).length := by rw [List.length_append, List.length_take, List.length_drop, L1.out]; omega
                have HO5 : Hid (w5.ownsRow w.heap.size 9 1 (.slice A5 (out.length + m) C5) (out ++ (sa.drop i).take m).length (sv (out ++ (sa.drop i).take m)) ∧ Below w.heap.size w w5) := Lib.hid ⟨by rw [← hlo]; exact ho5, HBL.out.trans hb5⟩
                have hsum2 : (out ++ (sa.drop i).take m).length ≤ i + m + j := by omega
                clear ho5 hb5 hk5 hX5 hA9 cx0 cx1 hlo HOW HBL
                go_wp2
                go_roundw
                case rel => exact ⟨k + 1, i + m, j, _, by omega, by omega, by omega, by go_num, by go_num, rfl, HO5, HRR, hsum2⟩
                case measure => simp [intOf]; omega
            · have hk1 : k - 1 < es.length := by omega
              obtain ⟨xp, op', hbe', p1, p2, p3⟩ := (HE.out.below HO.out.2).hcell (k - 1) hk1
              simp only [Option.some.injEq, Addr.mk.injEq, and_true] at hbe'
              obtain ⟨rfl, rfl⟩ := hbe'
              have hgp : (es[k - 1]'hk1).1 = (es.getD (k - 1) (0, 0)).1 := by simp [List.getD, hk1]
              rw [hgp] at p2
              clear p1 p3 hgp
              by_cases hp : (es.getD (k - 1) (0, 0)).1 = 0
              · rw [apS_same (by simp) hn (by rw [if_neg hk0, hp])] at hr
                have HRR := Lib.hid hr
                have hdk : decide (0 < k) = true := decide_eq_true (by omega)
                rw [hp] at p2
                have hk1b : (0 : Int) ≤ (k : Int) - 1 := by omega
                have hk1a : (1 : Int) ≤ (k : Int) := by omega
                have hk1c : (k : Int) - 1 < (le : Int) := by omega
                have hk1d : ((k : Int) - 1).toNat = k - 1 := by omega
                have hwk : IntKind.i64.wrap ((k : Int) - 1) = (k : Int) - 1 := IntWalk.i64_in _ (by omega)
                clear hr hp HR hk0
                go_wp2
                go_quiet (fail)
                clear hwk hk1d
                go_wp2
                go_ret2
                rw [← HRR.out]
                exact apRet_no _ _ _ (below_drewN (HO.out.2.alloc hba _) _)
              · have hprev : (if k = 0 then (none : Option Int) else some (es.getD (k - 1) (0, 0)).1) ≠ some 0 := by
                  rw [if_neg hk0]; intro e; injection e with e; exact hp e
                have hdk : decide (0 < k) = true := decide_eq_true (by omega)
                have hpo : ((es.getD (k - 1) (0, 0)).1 == (0 : Int)) = false := by simp only [beq_eq_false_iff_ne]; exact hp
                generalize (es.getD (k - 1) (0, 0)).1 = po at *
                have hll : (sa.drop i).length = la - i := by rw [List.length_drop, L1.out]
                by_cases hlen : ((sa.drop i).length : Int) < n
                · rw [apS_long0 hn hprev hlen] at hr
                  have HRR := Lib.hid hr
                  have hdl : decide ((la : Int) - (i : Int) < n) = true := decide_eq_true (by omega)
                  have hk1b : (0 : Int) ≤ (k : Int) - 1 := by omega
                  have hk1a : (1 : Int) ≤ (k : Int) := by omega
                  have hk1c : (k : Int) - 1 < (le : Int) := by omega
                  have hk1d : ((k : Int) - 1).toNat = k - 1 := by omega
                  have hwk : IntKind.i64.wrap ((k : Int) - 1) = (k : Int) - 1 := IntWalk.i64_in _ (by omega)
                  clear hr hprev hlen hll HR hk0 hp
                  go_wp2
                  go_quiet (fail)
                  clear hwk hk1d
                  go_wp2
                  go_ret2
                  rw [← HRR.out]
                  exact apRet_no _ _ _ (below_drewN (HO.out.2.alloc hba _) _)
                · rw [apS_zero hn hprev hlen] at hr
                  obtain ⟨m, rfl⟩ : ∃ m : Nat, n = (m : Int) := ⟨n.toNat, by omega⟩
                  rw [Int.toNat_natCast] at hr
                  rw [List.drop_drop] at hr
                  have hml : m ≤ la - i := by omega
                  have hdl : decide ((la : Int) - (i : Int) < (m : Int)) = false := decide_eq_false (by omega)
                  have HRR : Hid (apS (if k + 1 = 0 then none else some (es.getD (k + 1 - 1) (0, 0)).1) _ (es.drop (k + 1)) _ _ = apS none sa es sb []) := Lib.hid (by rw [if_neg (by omega), Nat.add_sub_cancel, HGK.out]; exact hr)
                  have hk1b : (0 : Int) ≤ (k : Int) - 1 := by omega
                  have hk1a : (1 : Int) ≤ (k : Int) := by omega
                  have hk1c : (k : Int) - 1 < (le : Int) := by omega
                  have hk1d : ((k : Int) - 1).toNat = k - 1 := by omega
                  have hwk : IntKind.i64.wrap ((k : Int) - 1) = (k : Int) - 1 := IntWalk.i64_in _ (by omega)
                  clear hr hprev hlen hll HR hk0 hp
                  have hq1 := H1.out.hcap
                  have hq2 := H1.out.hmax
                  obtain ⟨A9, hA9⟩ : ∃ A, (if ca = i then a else Option.map (fun x => x.add i) a) = A := ⟨_, rfl⟩
                  have HRU := Lib.hid (fun (W : World) (hW : Below w.heap.size w W) => (show Rd W w.heap.size A9 m (ca - i) (sv ((sa.drop i).take m)) by
                    have := ((H1.out.below hW).cut i (by omega)).take m (by omega)
                    rw [hA9, show ((sv sa).drop i).take m = sv ((sa.drop i).take m) from by simp [sv]] at this
                    exact this))
                  have hbnd : (out.length + m) * 16 ≤ 140737488355328 := by omega
                  go_wp2_with fail
                  go_quiet (fail)
                  clear hwk hk1d
                  rename_i nq
                  have hbl := below_drewN ((HO.out.2.alloc hba) (Obj.cells #[.int .i64 0, .int .i64 (m : Int)] 48)) nq
                  have HBL := Lib.hid hbl
                  have HOW := Lib.hid (show ((wr.alloc (Obj.cells #[.int .i64 0, .int .i64 (m : Int)] 48)).drewN nq).ownsRow w.heap.size 9 1 (.slice Ao No Co) out.length (sv out) from HO.out.1.alloc _)
                  have hX : ((wr.alloc (Obj.cells #[.int .i64 0, .int .i64 (m : Int)] 48)).drewN nq).heap[wr.heap.size]? = some (.cells #[.int .i64 0, .int .i64 (m : Int)] 48 (0, 0)) := heap_alloc_new wr _
                  generalize World.drewN _ _ = wq at *
                  have cx0 := (cell_of_row wq wr.heap.size 0 _ _ _ hX).trans (show (#[Value.int .i64 0, .int .i64 (m : Int)] : Array Value)[0]? = some (.int .i64 0) from rfl)
                  have cx1 := (cell_of_row wq wr.heap.size 1 _ _ _ hX).trans (show (#[Value.int .i64 0, .int .i64 (m : Int)] : Array Value)[1]? = some (.int .i64 (m : Int)) from rfl)
                  have HX := Lib.hid hX
                  have hsq : w.heap.size ≤ wq.heap.size := HBL.out.size
                  clear hX hbl
                  go_wp2_with (at_builtin; refine wpList_append_strs _ rfl _ _ rfl w.heap.size (.slice Ao No Co) out.length out rfl HOW.out w.heap.size A9 m (ca - i) ((sa.drop i).take m) ?hx (HRU.out _ HBL.out) (out.length + m) rfl (out ++ (sa.drop i).take m) rfl hbnd hsq ?_)
                  case hx =>
                    show Value.slice _ _ _ = _
                    simp only [Nat.add_sub_cancel_left]
                  intro A5 C5 w5 ho5 hb5 hk5
                  have hX5 := hk5.block _ _ _ _ HX.out (by decide)
                  have dx1 := (cell_of_row w5 wr.heap.size 1 _ _ _ hX5).trans (show (#[Value.int .i64 0, .int .i64 (m : Int)] : Array Value)[1]? = some (.int .i64 (m : Int)) from rfl)
                  have hlo : out.length + m = (out ++ (sa.drop i).take m).length := by rw [List.length_append, List.length_take, List.length_drop, L1.out]; omega
                  have HO5 : Hid (w5.ownsRow w.heap.size 9 1 (.slice A5 (out.length + m) C5) (out ++ (sa.drop i).take m).length (sv (out ++ (sa.drop i).take m)) ∧ Below w.heap.size w w5) := Lib.hid ⟨by rw [← hlo]; exact ho5, HBL.out.trans hb5⟩
                  have hsum2 : (out ++ (sa.drop i).take m).length ≤ i + m + j := by omega
                  clear ho5 hb5 hk5 hX5 hA9 cx0 cx1 hlo HOW HBL
                  go_wp2
                  go_roundw
                  case rel => exact ⟨k + 1, i + m, j, _, by omega, by omega, by omega, by go_num, by go_num, rfl, HO5, HRR, hsum2⟩
                  case measure => simp [intOf]; omega
        · by_cases hn : n < 1
          · rw [apS_small (by simp) hn] at hr
            have HRR := Lib.hid hr
            have hdn : decide (n < 1) = true := by simp; omega
            clear hr
            go_wp2
            go_ret2
            rw [← HRR.out]
            exact apRet_no _ _ _ (HO.out.2.alloc hba _)
          · have hdn : decide (n < 1) = false := by simp; omega
            by_cases hk0 : k = 0
            · have hprev : (if k = 0 then (none : Option Int) else some (es.getD (k - 1) (0, 0)).1) ≠ some 1 := by
                rw [if_pos hk0]; simp
              have hdk : decide (0 < k) = false := decide_eq_false (by omega)
              have hll : (sa.drop i).length = la - i := by rw [List.length_drop, L1.out]
              by_cases hlen : ((sa.drop i).length : Int) < n
              · rw [apS_long1 hn hprev hlen] at hr
                have HRR := Lib.hid hr
                have hdl : decide ((la : Int) - (i : Int) < n) = true := decide_eq_true (by omega)
                clear hr hprev hlen hll HR hk0
                go_wp2
                go_quiet (fail)
                skip
                go_wp2
                go_ret2
                rw [← HRR.out]
                exact apRet_no _ _ _ (below_drewN (HO.out.2.alloc hba _) _)
              · rw [apS_one hn hprev hlen] at hr
                obtain ⟨m, rfl⟩ : ∃ m : Nat, n = (m : Int) := ⟨n.toNat, by omega⟩
                rw [Int.toNat_natCast] at hr
                rw [List.drop_drop] at hr
                have hml : m ≤ la - i := by omega
                have hdl : decide ((la : Int) - (i : Int) < (m : Int)) = false := decide_eq_false (by omega)
                have HRR : Hid (apS (if k + 1 = 0 then none else some (es.getD (k + 1 - 1) (0, 0)).1) _ (es.drop (k + 1)) _ _ = apS none sa es sb []) := Lib.hid (by rw [if_neg (by omega), Nat.add_sub_cancel, HGK.out]; exact hr)
                clear hr hprev hlen hll HR hk0
                have hq1 := H1.out.hcap
                have hq2 := H1.out.hmax
                go_wp2
                go_quiet (fail)
                skip
                rename_i nq
                have HO5 : Hid (((wr.alloc (Obj.cells #[.int .i64 1, .int .i64 (m : Int)] 48)).drewN nq).ownsRow w.heap.size 9 1 (.slice Ao No Co) out.length (sv out) ∧ Below w.heap.size w ((wr.alloc (Obj.cells #[.int .i64 1, .int .i64 (m : Int)] 48)).drewN nq)) := Lib.hid ⟨HO.out.1.alloc _, below_drewN ((HO.out.2.alloc hba) _) nq⟩
                go_wp2
                go_roundw
                case rel => exact ⟨k + 1, i + m, j, _, by omega, by omega, by omega, by go_num, by go_num, rfl, HO5, HRR, by omega⟩
                case measure => simp [intOf]; omega
            · have hk1 : k - 1 < es.length := by omega
              obtain ⟨xp, op', hbe', p1, p2, p3⟩ := (HE.out.below HO.out.2).hcell (k - 1) hk1
              simp only [Option.some.injEq, Addr.mk.injEq, and_true] at hbe'
              obtain ⟨rfl, rfl⟩ := hbe'
              have hgp : (es[k - 1]'hk1).1 = (es.getD (k - 1) (0, 0)).1 := by simp [List.getD, hk1]
              rw [hgp] at p2
              clear p1 p3 hgp
              by_cases hp : (es.getD (k - 1) (0, 0)).1 = 1
              · rw [apS_same (by simp) hn (by rw [if_neg hk0, hp])] at hr
                have HRR := Lib.hid hr
                have hdk : decide (0 < k) = true := decide_eq_true (by omega)
                rw [hp] at p2
                have hk1b : (0 : Int) ≤ (k : Int) - 1 := by omega
                have hk1a : (1 : Int) ≤ (k : Int) := by omega
                have hk1c : (k : Int) - 1 < (le : Int) := by omega
                have hk1d : ((k : Int) - 1).toNat = k - 1 := by omega
                have hwk : IntKind.i64.wrap ((k : Int) - 1) = (k : Int) - 1 := IntWalk.i64_in _ (by omega)
                clear hr hp HR hk0
                go_wp2
                go_quiet (fail)
                clear hwk hk1d
                go_wp2
                go_ret2
                rw [← HRR.out]
                exact apRet_no _ _ _ (below_drewN (HO.out.2.alloc hba _) _)
              · have hprev : (if k = 0 then (none : Option Int) else some (es.getD (k - 1) (0, 0)).1) ≠ some 1 := by
                  rw [if_neg hk0]; intro e; injection e with e; exact hp e
                have hdk : decide (0 < k) = true := decide_eq_true (by omega)
                have hpo : ((es.getD (k - 1) (0, 0)).1 == (1 : Int)) = false := by simp only [beq_eq_false_iff_ne]; exact hp
                generalize (es.getD (k - 1) (0, 0)).1 = po at *
                have hll : (sa.drop i).length = la - i := by rw [List.length_drop, L1.out]
                by_cases hlen : ((sa.drop i).length : Int) < n
                · rw [apS_long1 hn hprev hlen] at hr
                  have HRR := Lib.hid hr
                  have hdl : decide ((la : Int) - (i : Int) < n) = true := decide_eq_true (by omega)
                  have hk1b : (0 : Int) ≤ (k : Int) - 1 := by omega
                  have hk1a : (1 : Int) ≤ (k : Int) := by omega
                  have hk1c : (k : Int) - 1 < (le : Int) := by omega
                  have hk1d : ((k : Int) - 1).toNat = k - 1 := by omega
                  have hwk : IntKind.i64.wrap ((k : Int) - 1) = (k : Int) - 1 := IntWalk.i64_in _ (by omega)
                  clear hr hprev hlen hll HR hk0 hp
                  go_wp2
                  go_quiet (fail)
                  clear hwk hk1d
                  go_wp2
                  go_ret2
                  rw [← HRR.out]
                  exact apRet_no _ _ _ (below_drewN (HO.out.2.alloc hba _) _)
                · rw [apS_one hn hprev hlen] at hr
                  obtain ⟨m, rfl⟩ : ∃ m : Nat, n = (m : Int) := ⟨n.toNat, by omega⟩
                  rw [Int.toNat_natCast] at hr
                  rw [List.drop_drop] at hr
                  have hml : m ≤ la - i := by omega
                  have hdl : decide ((la : Int) - (i : Int) < (m : Int)) = false := decide_eq_false (by omega)
                  have HRR : Hid (apS (if k + 1 = 0 then none else some (es.getD (k + 1 - 1) (0, 0)).1) _ (es.drop (k + 1)) _ _ = apS none sa es sb []) := Lib.hid (by rw [if_neg (by omega), Nat.add_sub_cancel, HGK.out]; exact hr)
                  have hk1b : (0 : Int) ≤ (k : Int) - 1 := by omega
                  have hk1a : (1 : Int) ≤ (k : Int) := by omega
                  have hk1c : (k : Int) - 1 < (le : Int) := by omega
                  have hk1d : ((k : Int) - 1).toNat = k - 1 := by omega
                  have hwk : IntKind.i64.wrap ((k : Int) - 1) = (k : Int) - 1 := IntWalk.i64_in _ (by omega)
                  clear hr hprev hlen hll HR hk0 hp
                  have hq1 := H1.out.hcap
                  have hq2 := H1.out.hmax
                  go_wp2
                  go_quiet (fail)
                  clear hwk hk1d
                  rename_i nq
                  have HO5 : Hid (((wr.alloc (Obj.cells #[.int .i64 1, .int .i64 (m : Int)] 48)).drewN nq).ownsRow w.heap.size 9 1 (.slice Ao No Co) out.length (sv out) ∧ Below w.heap.size w ((wr.alloc (Obj.cells #[.int .i64 1, .int .i64 (m : Int)] 48)).drewN nq)) := Lib.hid ⟨HO.out.1.alloc _, below_drewN ((HO.out.2.alloc hba) _) nq⟩
                  go_wp2
                  go_roundw
                  case rel => exact ⟨k + 1, i + m, j, _, by omega, by omega, by omega, by go_num, by go_num, rfl, HO5, HRR, by omega⟩
                  case measure => simp [intOf]; omega
        · by_cases hn : n < 1
          · rw [apS_small (by simp) hn] at hr
            have HRR := Lib.hid hr
            have hdn : decide (n < 1) = true := by simp; omega
            clear hr
            go_wp2
            go_ret2
            rw [← HRR.out]
            exact apRet_no _ _ _ (HO.out.2.alloc hba _)
          · have hdn : decide (n < 1) = false := by simp; omega
            by_cases hk0 : k = 0
            · have hprev : (if k = 0 then (none : Option Int) else some (es.getD (k - 1) (0, 0)).1) ≠ some 2 := by
                rw [if_pos hk0]; simp
              have hdk : decide (0 < k) = false := decide_eq_false (by omega)
              have hll : (sb.drop j).length = lb - j := by rw [List.length_drop, L2.out]
              by_cases hlen : ((sb.drop j).length : Int) < n
              · rw [apS_long2 hn hprev hlen] at hr
                have HRR := Lib.hid hr
                have hdl : decide ((lb : Int) - (j : Int) < n) = true := decide_eq_true (by omega)
                clear hr hprev hlen hll HR hk0
                go_wp2
                go_quiet (fail)
                skip
                go_wp2
                go_ret2
                rw [← HRR.out]
                exact apRet_no _ _ _ (below_drewN (HO.out.2.alloc hba _) _)
              · rw [apS_two hn hprev hlen] at hr
                obtain ⟨m, rfl⟩ : ∃ m : Nat, n = (m : Int) := ⟨n.toNat, by omega⟩
                rw [Int.toNat_natCast] at hr
                rw [List.drop_drop] at hr
                have hml : m ≤ lb - j := by omega
                have hdl : decide ((lb : Int) - (j : Int) < (m : Int)) = false := decide_eq_false (by omega)
                have HRR : Hid (apS (if k + 1 = 0 then none else some (es.getD (k + 1 - 1) (0, 0)).1) _ (es.drop (k + 1)) _ _ = apS none sa es sb []) := Lib.hid (by rw [if_neg (by omega), Nat.add_sub_cancel, HGK.out]; exact hr)
                clear hr hprev hlen hll HR hk0
                have hq1 := H2.out.hcap
                have hq2 := H2.out.hmax
                obtain ⟨A9, hA9⟩ : ∃ A, (if cb = j then b else Option.map (fun x => x.add j) b) = A := ⟨_, rfl⟩
                have HRU := Lib.hid (fun (W : World) (hW : Below w.heap.size w W) => (show Rd W w.heap.size A9 m (cb - j) (sv ((sb.drop j).take m)) by
                  have := ((H2.out.below hW).cut j (by omega)).take m (by omega)
                  rw [hA9, show ((sv sb).drop j).take m = sv ((sb.drop j).take m) from by simp [sv]] at this
                  exact this))
                have hbnd : (out.length + m) * 16 ≤ 140737488355328 := by omega
                go_wp2_with fail
                go_quiet (fail)
                skip
                rename_i nq
                have hbl := below_drewN ((HO.out.2.alloc hba) (Obj.cells #[.int .i64 2, .int .i64 (m : Int)] 48)) nq
                have HBL := Lib.hid hbl
                have HOW := Lib.hid (show ((wr.alloc (Obj.cells #[.int .i64 2, .int .i64 (m : Int)] 48)).drewN nq).ownsRow w.heap.size 9 1 (.slice Ao No Co) out.length (sv out) from HO.out.1.alloc _)
                have hX : ((wr.alloc (Obj.cells #[.int .i64 2, .int .i64 (m : Int)] 48)).drewN nq).heap[wr.heap.size]? = some (.cells #[.int .i64 2, .int .i64 (m : Int)] 48 (0, 0)) := heap_alloc_new wr _
                generalize World.drewN _ _ = wq at *
                have cx0 := (cell_of_row wq wr.heap.size 0 _ _ _ hX).trans (show (#[Value.int .i64 2, .int .i64 (m : Int)] : Array Value)[0]? = some (.int .i64 2) from rfl)
                have cx1 := (cell_of_row wq wr.heap.size 1 _ _ _ hX).trans (show (#[Value.int .i64 2, .int .i64 (m : Int)] : Array Value)[1]? = some (.int .i64 (m : Int)) from rfl)
                have HX := Lib.hid hX
                have hsq : w.heap.size ≤ wq.heap.size := HBL.out.size
                clear hX hbl
                go_wp2_with (at_builtin; refine wpList_append_strs _ rfl _ _ rfl w.heap.size (.slice Ao No Co) out.length out rfl HOW.out w.heap.size A9 m (cb - j) ((sb.drop j).take m) ?hx (HRU.out _ HBL.out) (out.length + m) rfl (out ++ (sb.drop j).take m) rfl hbnd hsq ?_)
                case hx =>
                  show Value.slice _ _ _ = _
                  simp only [Nat.add_sub_cancel_left]
                intro A5 C5 w5 ho5 hb5 hk5
                have hX5 := hk5.block _ _ _ _ HX.out (by decide)
                have dx1 := (cell_of_row w5 wr.heap.size 1 _ _ _ hX5).trans (show (#[Value.int .i64 2, .int .i64 (m : Int)] : Array Value)[1]? = some (.int .i64 (m : Int)) from rfl)
                have hlo : out.length + m = (out ++ (sb.drop j).take m).length := by rw [List.length_append, List.length_take, List.length_drop, L2.out]; omega
                have HO5 : Hid (w5.ownsRow w.heap.size 9 1 (.slice A5 (out.length + m) C5) (out ++ (sb.drop j).take m).length (sv (out ++ (sb.drop j).take m)) ∧ Below w.heap.size w w5) := Lib.hid ⟨by rw [← hlo]; exact ho5, HBL.out.trans hb5⟩
                have hsum2 : (out ++ (sb.drop j).take m).length ≤ i + (j + m) := by omega
                clear ho5 hb5 hk5 hX5 hA9 cx0 cx1 hlo HOW HBL
                go_wp2
                go_roundw
                case rel => exact ⟨k + 1, i, j + m, _, by omega, by omega, by omega, by go_num, rfl, by go_num, HO5, HRR, hsum2⟩
                case measure => simp [intOf]; omega
            · have hk1 : k - 1 < es.length := by omega
              obtain ⟨xp, op', hbe', p1, p2, p3⟩ := (HE.out.below HO.out.2).hcell (k - 1) hk1
              simp only [Option.some.injEq, Addr.mk.injEq, and_true] at hbe'
              obtain ⟨rfl, rfl⟩ := hbe'
              have hgp : (es[k - 1]'hk1).1 = (es.getD (k - 1) (0, 0)).1 := by simp [List.getD, hk1]
              rw [hgp] at p2
              clear p1 p3 hgp
              by_cases hp : (es.getD (k - 1) (0, 0)).1 = 2
              · rw [apS_same (by simp) hn (by rw [if_neg hk0, hp])] at hr
                have HRR := Lib.hid hr
                have hdk : decide (0 < k) = true := decide_eq_true (by omega)
                rw [hp] at p2
                have hk1b : (0 : Int) ≤ (k : Int) - 1 := by omega
                have hk1a : (1 : Int) ≤ (k : Int) := by omega
                have hk1c : (k : Int) - 1 < (le : Int) := by omega
                have hk1d : ((k : Int) - 1).toNat = k - 1 := by omega
                have hwk : IntKind.i64.wrap ((k : Int) - 1) = (k : Int) - 1 := IntWalk.i64_in _ (by omega)
                clear hr hp HR hk0
                go_wp2
                go_quiet (fail)
                clear hwk hk1d
                go_wp2
                go_ret2
                rw [← HRR.out]
                exact apRet_no _ _ _ (below_drewN (HO.out.2.alloc hba _) _)
              · have hprev : (if k = 0 then (none : Option Int) else some (es.getD (k - 1) (0, 0)).1) ≠ some 2 := by
                  rw [if_neg hk0]; intro e; injection e with e; exact hp e
                have hdk : decide (0 < k) = true := decide_eq_true (by omega)
                have hpo : ((es.getD (k - 1) (0, 0)).1 == (2 : Int)) = false := by simp only [beq_eq_false_iff_ne]; exact hp
                generalize (es.getD (k - 1) (0, 0)).1 = po at *
                have hll : (sb.drop j).length = lb - j := by rw [List.length_drop, L2.out]
                by_cases hlen : ((sb.drop j).length : Int) < n
                · rw [apS_long2 hn hprev hlen] at hr
                  have HRR := Lib.hid hr
                  have hdl : decide ((lb : Int) - (j : Int) < n) = true := decide_eq_true (by omega)
                  have hk1b : (0 : Int) ≤ (k : Int) - 1 := by omega
                  have hk1a : (1 : Int) ≤ (k : Int) := by omega
                  have hk1c : (k : Int) - 1 < (le : Int) := by omega
                  have hk1d : ((k : Int) - 1).toNat = k - 1 := by omega
                  have hwk : IntKind.i64.wrap ((k : Int) - 1) = (k : Int) - 1 := IntWalk.i64_in _ (by omega)
                  clear hr hprev hlen hll HR hk0 hp
                  go_wp2
                  go_quiet (fail)
                  clear hwk hk1d
                  go_wp2
                  go_ret2
                  rw [← HRR.out]
                  exact apRet_no _ _ _ (below_drewN (HO.out.2.alloc hba _) _)
                · rw [apS_two hn hprev hlen] at hr
                  obtain ⟨m, rfl⟩ : ∃ m : Nat, n = (m : Int) := ⟨n.toNat, by omega⟩
                  rw [Int.toNat_natCast] at hr
                  rw [List.drop_drop] at hr
                  have hml : m ≤ lb - j := by omega
                  have hdl : decide ((lb : Int) - (j : Int) < (m : Int)) = false := decide_eq_false (by omega)
                  have HRR : Hid (apS (if k + 1 = 0 then none else some (es.getD (k + 1 - 1) (0, 0)).1) _ (es.drop (k + 1)) _ _ = apS none sa es sb []) := Lib.hid (by rw [if_neg (by omega), Nat.add_sub_cancel, HGK.out]; exact hr)
                  have hk1b : (0 : Int) ≤ (k : Int) - 1 := by omega
                  have hk1a : (1 : Int) ≤ (k : Int) := by omega
                  have hk1c : (k : Int) - 1 < (le : Int) := by omega
                  have hk1d : ((k : Int) - 1).toNat = k - 1 := by omega
                  have hwk : IntKind.i64.wrap ((k : Int) - 1) = (k : Int) - 1 := IntWalk.i64_in _ (by omega)
                  clear hr hprev hlen hll HR hk0 hp
                  have hq1 := H2.out.hcap
                  have hq2 := H2.out.hmax
                  obtain ⟨A9, hA9⟩ : ∃ A, (if cb = j then b else Option.map (fun x => x.add j) b) = A := ⟨_, rfl⟩
                  have HRU := Lib.hid (fun (W : World) (hW : Below w.heap.size w W) => (show Rd W w.heap.size A9 m (cb - j) (sv ((sb.drop j).take m)) by
                    have := ((H2.out.below hW).cut j (by omega)).take m (by omega)
                    rw [hA9, show ((sv sb).drop j).take m = sv ((sb.drop j).take m) from by simp [sv]] at this
                    exact this))
                  have hbnd : (out.length + m) * 16 ≤ 140737488355328 := by omega
                  go_wp2_with fail
                  go_quiet (fail)
                  clear hwk hk1d
                  rename_i nq
                  have hbl := below_drewN ((HO.out.2.alloc hba) (Obj.cells #[.int .i64 2, .int .i64 (m : Int)] 48)) nq
                  have HBL := Lib.hid hbl
                  have HOW := Lib.hid (show ((wr.alloc (Obj.cells #[.int .i64 2, .int .i64 (m : Int)] 48)).drewN nq).ownsRow w.heap.size 9 1 (.slice Ao No Co) out.length (sv out) from HO.out.1.alloc _)
                  have hX : ((wr.alloc (Obj.cells #[.int .i64 2, .int .i64 (m : Int)] 48)).drewN nq).heap[wr.heap.size]? = some (.cells #[.int .i64 2, .int .i64 (m : Int)] 48 (0, 0)) := heap_alloc_new wr _
                  generalize World.drewN _ _ = wq at *
                  have cx0 := (cell_of_row wq wr.heap.size 0 _ _ _ hX).trans (show (#[Value.int .i64 2, .int .i64 (m : Int)] : Array Value)[0]? = some (.int .i64 2) from rfl)
                  have cx1 := (cell_of_row wq wr.heap.size 1 _ _ _ hX).trans (show (#[Value.int .i64 2, .int .i64 (m : Int)] : Array Value)[1]? = some (.int .i64 (m : Int)) from rfl)
                  have HX := Lib.hid hX
                  have hsq : w.heap.size ≤ wq.heap.size := HBL.out.size
                  clear hX hbl
                  go_wp2_with (at_builtin; refine wpList_append_strs _ rfl _ _ rfl w.heap.size (.slice Ao No Co) out.length out rfl HOW.out w.heap.size A9 m (cb - j) ((sb.drop j).take m) ?hx (HRU.out _ HBL.out) (out.length + m) rfl (out ++ (sb.drop j).take m) rfl hbnd hsq ?_)
                  case hx =>
                    show Value.slice _ _ _ = _
                    simp only [Nat.add_sub_cancel_left]
                  intro A5 C5 w5 ho5 hb5 hk5
                  have hX5 := hk5.block _ _ _ _ HX.out (by decide)
                  have dx1 := (cell_of_row w5 wr.heap.size 1 _ _ _ hX5).trans (show (#[Value.int .i64 2, .int .i64 (m : Int)] : Array Value)[1]? = some (.int .i64 (m : Int)) from rfl)
                  have hlo : out.length + m = (out ++ (sb.drop j).take m).length := by rw [List.length_append, List.length_take, List.length_drop, L2.out]; omega
                  have HO5 : Hid (w5.ownsRow w.heap.size 9 1 (.slice A5 (out.length + m) C5) (out ++ (sb.drop j).take m).length (sv (out ++ (sb.drop j).take m)) ∧ Below w.heap.size w w5) := Lib.hid ⟨by rw [← hlo]; exact ho5, HBL.out.trans hb5⟩
                  have hsum2 : (out ++ (sb.drop j).take m).length ≤ i + (j + m) := by omega
                  clear ho5 hb5 hk5 hX5 hA9 cx0 cx1 hlo HOW HBL
                  go_wp2
                  go_roundw
                  case rel => exact ⟨k + 1, i, j + m, _, by omega, by omega, by omega, by go_num, rfl, by go_num, HO5, HRR, hsum2⟩
                  case measure => simp [intOf]; omega
      · rw [apS_bad hop] at hr
        have HRR := Lib.hid hr
        have b0 : (op != 0) = true := by simp; omega
        have b1 : (op != 1) = true := by simp; omega
        have b2 : (op != 2) = true := by simp; omega
        clear hr hop
        go_wp2
        go_ret2
        rw [← HRR.out]
        exact apRet_no _ _ _ (HO.out.2.alloc hba _)
    · obtain rfl : k = le := by omega
      have hr := HR.out
      rw [show es.drop k = [] from List.drop_eq_nil_of_le (by omega)] at hr
      have e1 : (sa.drop i).length = la - i := by rw [List.length_drop, L1.out]
      have e2 : (sb.drop j).length = lb - j := by rw [List.length_drop, L2.out]
      by_cases h1 : i < la
      · rw [apS_rest (.inl (by omega))] at hr
        have HRR := Lib.hid hr
        have hd1 : decide (i < la) = true := decide_eq_true h1
        clear hr e1 e2
        go_wp2
        go_ret2
        rw [← HRR.out]
        exact apRet_no _ _ _ HO.out.2
      · have hd1 : decide (i < la) = false := decide_eq_false h1
        by_cases h2 : j < lb
        · rw [apS_rest (.inr (by omega))] at hr
          have HRR := Lib.hid hr
          have hd2 : decide (j < lb) = true := decide_eq_true h2
          clear hr e1 e2
          go_wp2
          go_ret2
          rw [← HRR.out]
          exact apRet_no _ _ _ HO.out.2
        · rw [apS_end (by omega)] at hr
          have HRR := Lib.hid hr
          have hd2 : decide (j < lb) = false := decide_eq_false h2
          clear hr e1 e2
          go_wp2
          go_ret2
          rw [← HRR.out]
          exact ⟨_, rfl, HO.out.1, HO.out.2⟩
end Go.Proofs.Ytfgmnfcakeenmaa.Ln
