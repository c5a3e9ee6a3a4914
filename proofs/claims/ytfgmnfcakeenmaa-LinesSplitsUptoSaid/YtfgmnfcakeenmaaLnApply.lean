/- Scripts that are done: what is done, and lines.Apply walked. -/
import Derived.Test.YtfgmnfcakeenmaaLnOpen
import Derived.Deep.RegionHeld3
namespace Go.Proofs.Ytfgmnfcakeenmaa.Ln
open Go.RowKit
set_option linter.unusedVariables false

/-- a script done on a: the lines, and why not (0: it was done). prev: the step ahead -/
def apS {α : Type} : Option Int → List α → List (Int × Int) → List α → List α → List α × Int
  | _, a, [], d, out => if 0 < a.length ∨ 0 < d.length then ([], 28) else (out, 0)
  | prev, a, (op, n) :: e, d, out =>
    if ¬ (op = 0 ∨ op = 1 ∨ op = 2) then ([], 3)
    else if n < 1 then ([], 1)
    else if prev = some op then ([], 18)
    else if op = 2 then
      if (d.length : Int) < n then ([], 28) else apS (some op) a e (d.drop n.toNat) (out ++ d.take n.toNat)
    else
      if (a.length : Int) < n then ([], 28) else apS (some op) (a.drop n.toNat) e d (if op = 0 then out ++ a.take n.toNat else out)

section
variable {α : Type} {prev : Option Int} {a d out : List α} {op n : Int} {e : List (Int × Int)}
theorem apS_bad (h : ¬ (op = 0 ∨ op = 1 ∨ op = 2)) : apS prev a ((op, n) :: e) d out = ([], 3) := by rw [apS, if_pos h]
theorem apS_small (h : op = 0 ∨ op = 1 ∨ op = 2) (h1 : n < 1) : apS prev a ((op, n) :: e) d out = ([], 1) := by rw [apS, if_neg (fun g => g h), if_pos h1]
theorem apS_same (h : op = 0 ∨ op = 1 ∨ op = 2) (h1 : ¬ n < 1) (h2 : prev = some op) : apS prev a ((op, n) :: e) d out = ([], 18) := by rw [apS, if_neg (fun g => g h), if_neg h1, if_pos h2]
theorem apS_long2 (h1 : ¬ n < 1) (h2 : prev ≠ some 2) (h3 : (d.length : Int) < n) : apS prev a ((2, n) :: e) d out = ([], 28) := by
  rw [apS, if_neg (by simp), if_neg h1, if_neg h2, if_pos rfl, if_pos h3]
theorem apS_two (h1 : ¬ n < 1) (h2 : prev ≠ some 2) (h3 : ¬ (d.length : Int) < n) : apS prev a ((2, n) :: e) d out = apS (some 2) a e (d.drop n.toNat) (out ++ d.take n.toNat) := by
  rw [apS, if_neg (by simp), if_neg h1, if_neg h2, if_pos rfl, if_neg h3]
theorem apS_long1 (h1 : ¬ n < 1) (h2 : prev ≠ some 1) (h3 : (a.length : Int) < n) : apS prev a ((1, n) :: e) d out = ([], 28) := by
  rw [apS, if_neg (by simp), if_neg h1, if_neg h2, if_neg (by simp), if_pos h3]
theorem apS_one (h1 : ¬ n < 1) (h2 : prev ≠ some 1) (h3 : ¬ (a.length : Int) < n) : apS prev a ((1, n) :: e) d out = apS (some 1) (a.drop n.toNat) e d out := by
  rw [apS, if_neg (by simp), if_neg h1, if_neg h2, if_neg (by simp), if_neg h3, if_neg (by simp)]
theorem apS_long0 (h1 : ¬ n < 1) (h2 : prev ≠ some 0) (h3 : (a.length : Int) < n) : apS prev a ((0, n) :: e) d out = ([], 28) := by
  rw [apS, if_neg (by simp), if_neg h1, if_neg h2, if_neg (by simp), if_pos h3]
theorem apS_zero (h1 : ¬ n < 1) (h2 : prev ≠ some 0) (h3 : ¬ (a.length : Int) < n) : apS prev a ((0, n) :: e) d out = apS (some 0) (a.drop n.toNat) e d (out ++ a.take n.toNat) := by
  rw [apS, if_neg (by simp), if_neg h1, if_neg h2, if_neg (by simp), if_neg h3, if_pos rfl]
theorem apS_end (h : ¬ (0 < a.length ∨ 0 < d.length)) : apS prev a [] d out = (out, 0) := by rw [apS, if_neg h]
theorem apS_rest (h : 0 < a.length ∨ 0 < d.length) : apS prev a [] d out = ([], 28) := by rw [apS, if_pos h]
end

/-- a slice of edits that is read -/
structure RdE (w : World) (B : Nat) (a : Option Addr) (n cap : Nat) (es : List (Int × Int)) : Prop where
  hlen : es.length = n
  hcap : n ≤ cap
  hmax : cap ≤ 9223372036854775807
  hbig : n ≤ 140737488355328
  hnone : a = none → cap = 0
  hcell : ∀ i (hi : i < es.length), ∃ b off, a = some ⟨b, off, none⟩ ∧ b < B ∧ w.cell? ⟨b, off + i * 2, none⟩ = some (.int .i64 (es[i]'hi).1) ∧ w.cell? ⟨b, off + i * 2 + 1, none⟩ = some (.int .i64 (es[i]'hi).2)
theorem RdE.below {w w' : World} {B : Nat} {a : Option Addr} {n cap : Nat} {es : List (Int × Int)} (h : RdE w B a n cap es) (hb : Below B w w') : RdE w' B a n cap es :=
  ⟨h.hlen, h.hcap, h.hmax, h.hbig, h.hnone, fun i hi => by
    obtain ⟨b, off, ha, hlt, h1, h2⟩ := h.hcell i hi
    exact ⟨b, off, ha, hlt, (hb.cell (p := ⟨b, off + i * 2, none⟩) hlt).trans h1, (hb.cell (p := ⟨b, off + i * 2 + 1, none⟩) hlt).trans h2⟩⟩
theorem RdE.more {w : World} {B B' : Nat} {a : Option Addr} {n cap : Nat} {es : List (Int × Int)} (h : RdE w B a n cap es) (hB : B ≤ B') : RdE w B' a n cap es :=
  ⟨h.hlen, h.hcap, h.hmax, h.hbig, h.hnone, fun i hi => by
    obtain ⟨b, off, ha, hlt, h1, h2⟩ := h.hcell i hi
    exact ⟨b, off, ha, by omega, h1, h2⟩⟩

/-- the two rows of lines that lines.Apply goes through, in boxes of its own; what it has made -/
structure Aw (w wr : World) (es : List (Int × Int)) (TA TD : Nat) (a d out : List ByteArray) (vo : Value) : Prop where
  ta : ∃ A c, wr.heap[TA]? = some (.cells #[.slice A a.length c] 22 (0, 0)) ∧ Rd wr w.heap.size A a.length c (sv a)
  td : ∃ A c, wr.heap[TD]? = some (.cells #[.slice A d.length c] 22 (0, 0)) ∧ Rd wr w.heap.size A d.length c (sv d)
  own : wr.ownsRow w.heap.size 9 1 vo out.length (sv out)
  ha : w.heap.size ≤ TA
  hd : w.heap.size ≤ TD
  hne : TA ≠ TD
  bel : Below w.heap.size w wr
theorem Aw.drewN {w wr : World} {es : List (Int × Int)} {TA TD : Nat} {a d out : List ByteArray} {vo : Value} (h : Aw w wr es TA TD a d out vo) (n : Nat) : Aw w (wr.drewN n) es TA TD a d out vo :=
  ⟨by obtain ⟨A, c, h1, h2⟩ := h.ta; exact ⟨A, c, h1, h2.drewN n⟩, by obtain ⟨A, c, h1, h2⟩ := h.td; exact ⟨A, c, h1, h2.drewN n⟩, h.own, h.ha, h.hd, h.hne, below_drewN h.bel n⟩
/-- strings alone have turned, and what is new -/
theorem Aw.kp {w wr w' : World} {es : List (Int × Int)} {TA TD : Nat} {a d out out' : List ByteArray} {vo vo' : Value} (h : Aw w wr es TA TD a d out vo) (hk : Kp [9] wr w') (hb : Below w.heap.size wr w') (ho : w'.ownsRow w.heap.size 9 1 vo' out'.length (sv out')) : Aw w w' es TA TD a d out' vo' :=
  ⟨by obtain ⟨A, c, h1, h2⟩ := h.ta; exact ⟨A, c, hk.block _ _ _ _ h1 (by decide), h2.below hb⟩, by obtain ⟨A, c, h1, h2⟩ := h.td; exact ⟨A, c, hk.block _ _ _ _ h1 (by decide), h2.below hb⟩, ho, h.ha, h.hd, h.hne, h.bel.trans hb⟩
theorem Aw.alloc {w wr : World} {es : List (Int × Int)} {TA TD : Nat} {a d out : List ByteArray} {vo : Value} (h : Aw w wr es TA TD a d out vo) (o : Obj) : Aw w (wr.alloc o) es TA TD a d out vo :=
  h.kp ((Kp.refl _ wr).alloc o) ((Below.refl _ wr).alloc h.bel.size o) (h.own.alloc o)
theorem Aw.seta {w wr : World} {es : List (Int × Int)} {TA TD : Nat} {a d out : List ByteArray} {vo : Value} (h : Aw w wr es TA TD a d out vo) {A : Option Addr} {c : Nat} {a' : List ByteArray} {n : Nat} (hn : a'.length = n) (hr : Rd wr w.heap.size A n c (sv a')) : Aw w (wr.setCell ⟨TA, 0, none⟩ (.slice A n c)) es TA TD a' d out vo := by
  subst hn
  have hb : Below w.heap.size wr (wr.setCell ⟨TA, 0, none⟩ (.slice A a'.length c)) := (Below.refl _ wr).setCell h.ha _
  obtain ⟨A1, c1, h1, h2⟩ := h.ta
  obtain ⟨A2, c2, h3, h4⟩ := h.td
  refine ⟨⟨A, c, one_setCell h1, hr.below hb⟩, ⟨A2, c2, (Below.heap_setCell _ _ _ _ (fun e => h.hne e.symm)).trans h3, h4.below hb⟩, ?_, h.ha, h.hd, h.hne, h.bel.trans hb⟩
  exact ownsRow_setCell_other h.own (by
    intro e
    rcases h.own.2 with ⟨rfl, _⟩ | ⟨g', cap', cur, rfl, _, hh, _⟩
    · simp [Value.ownBlock] at e
    · simp [Value.ownBlock] at e
      subst e
      rw [h1] at hh
      simp at hh) _
theorem Aw.setd {w wr : World} {es : List (Int × Int)} {TA TD : Nat} {a d out : List ByteArray} {vo : Value} (h : Aw w wr es TA TD a d out vo) {A : Option Addr} {c : Nat} {d' : List ByteArray} {n : Nat} (hn : d'.length = n) (hr : Rd wr w.heap.size A n c (sv d')) : Aw w (wr.setCell ⟨TD, 0, none⟩ (.slice A n c)) es TA TD a d' out vo := by
  subst hn
  have hb : Below w.heap.size wr (wr.setCell ⟨TD, 0, none⟩ (.slice A d'.length c)) := (Below.refl _ wr).setCell h.hd _
  obtain ⟨A1, c1, h1, h2⟩ := h.ta
  obtain ⟨A2, c2, h3, h4⟩ := h.td
  refine ⟨⟨A1, c1, (Below.heap_setCell _ _ _ _ h.hne).trans h1, h2.below hb⟩, ⟨A, c, one_setCell h3, hr.below hb⟩, ?_, h.ha, h.hd, h.hne, h.bel.trans hb⟩
  exact ownsRow_setCell_other h.own (by
    intro e
    rcases h.own.2 with ⟨rfl, _⟩ | ⟨g', cap', cur, rfl, _, hh, _⟩
    · simp [Value.ownBlock] at e
    · simp [Value.ownBlock] at e
      subst e
      rw [h3] at hh
      simp at hh) _

/-- what Apply answers: lines of the call's own (none where it was not done), and the reason -/
def ApRet (r : List ByteArray × Int) (w : World) (e : Ending) (w' : World) : Prop :=
  ∃ v, e = .returned (.tuple #[v, .int .i64 r.2]) ∧ w'.ownsRow w.heap.size 9 1 v r.1.length (sv r.1) ∧ Below w.heap.size w w'
theorem apRet_no (w w' : World) (c : Int) (hb : Below w.heap.size w w') : ApRet ([], c) w (.returned (.tuple #[.slice none 0 0, .int .i64 c])) w' := ⟨_, rfl, World.ownsRow_nil _ _ _ _, hb⟩

theorem prev_some (es : List (Int × Int)) (k : Nat) : (if k = 0 then (none : Option Int) else some (es.getD (k - 1) (0, 0)).1) = none ↔ k = 0 := by
  by_cases h : k = 0 <;> simp [h]

set_option maxRecDepth 100000 in
set_option maxHeartbeats 2000000 in
theorem apply_any (a : Option Addr) (la ca : Nat) (sa : List ByteArray) (ea : Option Addr) (le ce : Nat) (es : List (Int × Int)) (b : Option Addr) (lb cb : Nat) (sb : List ByteArray) (w : World) (h1 : Rd w w.heap.size a la ca (sv sa)) (he : RdE w w.heap.size ea le ce es) (h2 : Rd w w.heap.size b lb cb (sv sb))
    (hwf : ∀ x ∈ es, -9223372036854775808 ≤ x.2 ∧ x.2 ≤ 9223372036854775807) (hsz : la + lb ≤ 8000000) :
    Calls Try.prog 16 #[.slice a la ca, .slice ea le ce, .slice b lb cb] w (ApRet (apS none sa es sb []) w) := by
  have lsa : sa.length = la := by have := h1.hlen; simpa [sv] using this
  have lsb : sb.length = lb := by have := h2.hlen; simpa [sv] using this
  have les := he.hlen
  have lbig := he.hbig
  have lcap := he.hcap
  have lmax := he.hmax
  have HE := Lib.hid he
  have HWF := Lib.hid hwf
  have HW : Hid (Aw w ((w.alloc (.cells #[.slice a la ca] 22)).alloc (.cells #[.slice b lb cb] 22)) es w.heap.size (w.heap.size + 1) sa sb [] (.slice none 0 0)) := by
    have hb1 : Below w.heap.size w (w.alloc (.cells #[.slice a la ca] 22)) := (Below.refl _ w).alloc (Nat.le_refl _) _
    have hb2 := hb1.alloc (by simp) (.cells #[.slice b lb cb] 22)
    refine Lib.hid ⟨⟨a, ca, ?_, ?_⟩, ⟨b, cb, ?_, ?_⟩, World.ownsRow_nil _ _ _ _, Nat.le_refl _, by omega, by omega, hb2⟩
    · rw [Below.heap_alloc _ _ _ (by simp), lsa]; exact heap_alloc_new w _
    · rw [lsa]; exact h1.below hb2
    · have := heap_alloc_new (w.alloc (.cells #[.slice a la ca] 22)) (.cells #[.slice b lb cb] 22)
      rw [lsb]
      simpa using this
    · rw [lsb]; exact h2.below hb2
  have HS0 : Hid (sa.length + sb.length ≤ 8000000) := Lib.hid (by omega)
  clear h1 h2 he hwf lsa lsb
  go_enter Try.func16, Try.ntmps16
  -- LOOP
  go_wp2
  obtain ⟨TD, hTD⟩ : ∃ T, T = w.heap.size + 1 := ⟨_, rfl⟩
  obtain ⟨TA, hTA⟩ : ∃ T, T = w.heap.size := ⟨_, rfl⟩
  have HTA := Lib.hid hTA
  rw [← hTD, ← hTA] at HW ⊢
  clear hTA hTD
  generalize World.alloc _ _ = W0 at *
  go_loopw [8, 14] (fun s8 s14 wr => ∃ (k : Nat) (a d out : List ByteArray), k ≤ le ∧ s14 = .int .i64 k ∧ Hid (Aw w wr es TA TD a d out s8) ∧ Hid (apS (if k = 0 then none else some (es.getD (k - 1) (0, 0)).1) a (es.drop k) d out = apS none sa es sb []) ∧ a.length + d.length + out.length ≤ 8000000) (fun _ s14 _ => le - (intOf s14).toNat)
  case atStart => exact ⟨0, sa, sb, [], Nat.zero_le _, rfl, HW, Lib.hid (by simp), by have := HS0.out; simp; omega⟩
  case round =>
    clear HW
    obtain ⟨k, a, d, out, hk, rfl, HA, HR, hsum⟩ := hrel
    obtain ⟨Ao, No, Co, rfl⟩ := own_slice HA.out.own
    obtain ⟨A1, c1, ta, ra⟩ := HA.out.ta
    obtain ⟨A2, c2, td, rd⟩ := HA.out.td
    have hba := HA.out.bel.size
    have q1 := ra.hcap
    have q2 := rd.hcap
    have q3 := ra.hmax
    have q4 := rd.hmax
    have hTAlt := lt_of_block ta
    have hTDlt := lt_of_block td
    have ca := cell_of_one ta
    have fa := free_of_one ta
    have cd := cell_of_one td
    have fd := free_of_one td
    have HRA := Lib.hid ra
    have HRD := Lib.hid rd
    have HTA1 := Lib.hid ta
    have HTD1 := Lib.hid td
    clear ta td ra rd
    by_cases hlt : k < le
    · have hk2 : k < es.length := by omega
      obtain ⟨xe, oe, rfl, hbe, e1, e2⟩ := (HE.out.below HA.out.bel).hcell k hk2
      have hxlt : xe < wr.heap.size := by omega
      have hcons : es.drop k = es[k] :: es.drop (k + 1) := List.drop_eq_getElem_cons hk2
      have hw := HWF.out es[k] (List.getElem_mem hk2)
      have hgk : es.getD k (0, 0) = es[k] := by simp [List.getD, hk2]
      have hr := HR.out
      rw [hcons] at hr
      have HGK := Lib.hid hgk
      clear hcons hgk
      obtain ⟨op, n, hxe⟩ : ∃ op n, es[k] = (op, n) := ⟨_, _, rfl⟩
      rw [hxe] at e1 e2 hr hw HGK
      simp only at e1 e2 hw
      have HXE := Lib.hid hxe
      clear hxe
      by_cases hop : op = 0 ∨ op = 1 ∨ op = 2
      · rcases hop with rfl | rfl | rfl
        · have hop0 : True := trivial
          by_cases hn : n < 1
          · rw [apS_small (by simp) hn] at hr
            have HRR := Lib.hid hr
            have hdn : decide (n < 1) = true := by simp; omega
            clear hr
            go_wp2
            go_ret2
            rw [← HRR.out]
            exact apRet_no _ _ _ (HA.out.bel.alloc hba _)
          · have hdn : decide (n < 1) = false := by simp; omega
            by_cases hk0 : k = 0
            · have hprev : (if k = 0 then (none : Option Int) else some (es.getD (k - 1) (0, 0)).1) ≠ some 0 := by
                rw [if_pos hk0]; simp
              have hdk : decide (0 < k) = false := decide_eq_false (by omega)
              by_cases hlen : (a.length : Int) < n
              · rw [apS_long0 hn hprev hlen] at hr
                have HRR := Lib.hid hr
                have hdl : decide ((a.length : Int) < n) = true := decide_eq_true hlen
                clear hr hprev hlen HR hk0
                go_wp2
                go_quiet (fail)
                go_wp2
                go_quiet (fail)
                go_wp2
                go_ret2
                rw [← HRR.out]
                exact apRet_no _ _ _ (below_drewN (below_drewN (HA.out.bel.alloc hba _) _) _)
              · rw [apS_zero hn hprev hlen] at hr
                obtain ⟨m, rfl⟩ : ∃ m : Nat, n = (m : Int) := ⟨n.toNat, by omega⟩
                rw [Int.toNat_natCast] at hr
                have hml : m ≤ a.length := by omega
                have hdl : decide ((a.length : Int) < (m : Int)) = false := decide_eq_false hlen
                have HRR : Hid (apS (if k + 1 = 0 then none else some (es.getD (k + 1 - 1) (0, 0)).1) _ (es.drop (k + 1)) _ _ = apS none sa es sb []) := Lib.hid (by rw [if_neg (by omega), Nat.add_sub_cancel, HGK.out]; exact hr)
                clear hr hprev hlen HR hk0
                go_wp2
                go_quiet (fail)
                go_wp2
                go_quiet (fail)
                go_upto_region 17 with (fail)
                generalize hWq : World.drewN _ _ = wq
                have HAq : Hid (Aw w wq es TA TD a d out (.slice Ao No Co)) := Lib.hid (by rw [← hWq]; exact (HA.out.alloc _).drewN _)
                have hX : wq.heap[wr.heap.size]? = some (.cells #[.int .i64 0, .int .i64 (m : Int)] 48 (0, 0)) := by rw [← hWq]; exact heap_alloc_new wr _
                have hF : wq.heap[TA]? = some (.cells #[.slice A1 a.length c1] 22 (0, 0)) := by rw [← hWq]; exact (heap_alloc_old wr _ hTAlt).trans HTA1.out
                have hRF : Rd wq w.heap.size A1 a.length c1 (sv a) := by rw [← hWq]; exact (HRA.out.below ((Below.refl _ wr).alloc hba _)).drewN _
                clear hWq
                have hmc : m ≤ c1 := by omega
                have HOq := Lib.hid (show wq.drew.ownsRow w.heap.size 9 1 (.slice Ao No Co) out.length (sv out) from HAq.out.own)
                have HTq := Lib.hid (show Rd wq.drew w.heap.size A1 m c1 (sv (a.take m)) from by have := (hRF.take m hml).drewN 1; rw [show (sv a).take m = sv (a.take m) from by simp [sv]] at this; exact this)
                have hsq : w.heap.size ≤ wq.drew.heap.size := HAq.out.bel.size
                have HAd := Lib.hid (show Aw w wq.drew es TA TD a d out (.slice Ao No Co) from HAq.out.drewN 1)
                have HRFd := Lib.hid (show Rd wq.drew w.heap.size A1 a.length c1 (sv a) from hRF.drewN 1)
                have HX := Lib.hid (show wq.drew.heap[wr.heap.size]? = some (.cells #[.int .i64 0, .int .i64 (m : Int)] 48 (0, 0)) from hX)
                have HF := Lib.hid (show wq.drew.heap[TA]? = some (.cells #[.slice A1 a.length c1] 22 (0, 0)) from hF)
                have cx1 : wq.cell? ⟨wr.heap.size, 1, none⟩ = some (.int .i64 (m : Int)) := cell_of_row _ _ 1 _ _ _ hX
                have cf0 := cell_of_one hF
                have hbnd : (out.length + m) * 16 ≤ 140737488355328 := by omega
                clear hX hF hRF HAq
                go_cut [8] (fun s8 wx => ∃ A5 C5, s8 = .slice A5 (out.length + m) C5 ∧ Hid (Aw w wx es TA TD a d (out ++ a.take m) (.slice A5 (out.length + m) C5)) ∧ Hid (wx.heap[wr.heap.size]? = some (.cells #[.int .i64 0, .int .i64 (m : Int)] 48 (0, 0))) ∧ Hid (wx.heap[TA]? = some (.cells #[.slice A1 a.length c1] 22 (0, 0))) ∧ Hid (Rd wx w.heap.size A1 a.length c1 (sv a)))
                case first =>
                  have HSa : Hid (wq.drew.cell? ⟨wr.heap.size, 1, none⟩ = some (.int .i64 (m : Int)) ∧ wq.drew.cell? ⟨TA, 0, none⟩ = some (.slice A1 a.length c1)) := Lib.hid ⟨cx1, cf0⟩
                  clear cx1 cf0
                  go_region_held3 (fun wS => wS.cell? ⟨wr.heap.size, 1, none⟩ = some (.int .i64 (m : Int)) ∧ wS.cell? ⟨TA, 0, none⟩ = some (.slice A1 a.length c1)) (first | exact HSb.out | exact HSa.out) ((refine step_append_strs _ rfl (.tmp 65) (.tmp 71) rfl w.heap.size (.slice Ao No Co) out.length out rfl HOq.out w.heap.size A1 m c1 (a.take m) rfl HTq.out (out.length + m) rfl (out ++ a.take m) rfl hbnd hsq ?_; intro A5 C5 w5 ho5 hb5 hk5; have HO5 := Lib.hid ho5; have HB5 := Lib.hid hb5; have HK5 := Lib.hid hk5; have hX5 := hk5.block _ _ _ _ HX.out (by decide); have hF5 := hk5.block _ _ _ _ HF.out (by decide); have HSb : Hid (w5.cell? ⟨wr.heap.size, 1, none⟩ = some (.int .i64 (m : Int)) ∧ w5.cell? ⟨TA, 0, none⟩ = some (.slice A1 a.length c1)) := Lib.hid ⟨cell_of_row _ _ 1 _ _ _ hX5, cell_of_one hF5⟩; clear ho5 hb5 hk5 hX5 hF5))
                  have ho5 := HO5.out
                  rw [show out.length + m = (out ++ a.take m).length from by simp; omega] at ho5
                  have HA5 := Lib.hid (HAd.out.kp HK5.out HB5.out ho5)
                  rw [show (out ++ a.take m).length = out.length + m from by simp; omega] at HA5
                  have hX5 := Lib.hid (HK5.out.block _ _ _ _ HX.out (by decide))
                  have hF5 := Lib.hid (HK5.out.block _ _ _ _ HF.out (by decide))
                  have hR5 := Lib.hid (HRFd.out.below HB5.out)
                  clear ho5 HO5 HOq HTq
                  go_wp2_with fail
                  go_meet
                  exact ⟨_, _, rfl, HA5, hX5, hF5, hR5⟩
                case rest =>
                  obtain ⟨A5, C5, rfl, HA5, HX5, HF5, HR5⟩ := hcut
                  have hX5 := HX5.out
                  have hF5 := HF5.out
                  have hR5 := HR5.out
                  clear cx1 cf0 HOq HTq HAd HRFd HX HF HX5 HF5 HR5
                  obtain ⟨A9, hA9⟩ : ∃ A, (if c1 = m then A1 else Option.map (fun x => x.add m) A1) = A := ⟨_, rfl⟩
                  have hr9 := (hR5.cut m hml).drewN 1
                  rw [hA9, show (sv a).drop m = sv (a.drop m) from by simp [sv]] at hr9
                  have HR9 := Lib.hid hr9
                  clear hr9
                  have cx1 := (cell_of_row _ _ 1 _ _ _ hX5).trans (show (#[Value.int .i64 0, .int .i64 (m : Int)] : Array Value)[1]? = some (.int .i64 (m : Int)) from rfl)
                  have cf0 := cell_of_one hF5
                  have ff0 := free_of_one hF5
                  clear hX5 hF5 hR5
                  go_wp2_with fail
                  go_region
                  go_wp2
                  go_roundw
                  case rel => exact ⟨k + 1, a.drop m, d, out ++ a.take m, by omega, by go_num, Lib.hid (by exact Aw.seta (HA5.out.drewN 1) (by simp) HR9.out), HRR, by simp; omega⟩
                  case measure => simp [intOf]; omega
            · have hk1 : k - 1 < es.length := by omega
              obtain ⟨xp, op', hbe', p1, p2, p3⟩ := (HE.out.below HA.out.bel).hcell (k - 1) hk1
              simp only [Option.some.injEq, Addr.mk.injEq, and_true] at hbe'
              obtain ⟨rfl, rfl⟩ := hbe'
              have hgp : (es[k - 1]'hk1).1 = (es.getD (k - 1) (0, 0)).1 := by simp [List.getD, hk1]
              rw [hgp] at p2
              clear p1 p3 hgp
              by_cases hp : (es.getD (k - 1) (0, 0)).1 = 0
              · rw [apS_same (by simp) hn (by rw [if_neg hk0, hp])] at hr
                have HRR := Lib.hid hr
                have hdk : decide (0 < k) = true := decide_eq_true (by omega)
                rw [hp] at p2
                have hk1b : (0 : Int) ≤ (k : Int) - 1 := by omega
                have hk1a : (1 : Int) ≤ (k : Int) := by omega
                have hk1c : (k : Int) - 1 < (le : Int) := by omega
                have hk1d : ((k : Int) - 1).toNat = k - 1 := by omega
                have hwk : IntKind.i64.wrap ((k : Int) - 1) = (k : Int) - 1 := IntWalk.i64_in _ (by omega)
                clear hr hp HR hk0
                go_wp2
                go_quiet (fail)
                clear hwk hk1d
                go_wp2
                go_ret2
                rw [← HRR.out]
                exact apRet_no _ _ _ (below_drewN (HA.out.bel.alloc hba _) _)
              · have hprev : (if k = 0 then (none : Option Int) else some (es.getD (k - 1) (0, 0)).1) ≠ some 0 := by
                  rw [if_neg hk0]; intro e; injection e with e; exact hp e
                have hdk : decide (0 < k) = true := decide_eq_true (by omega)
                have hpo : ((es.getD (k - 1) (0, 0)).1 == (0 : Int)) = false := by simp only [beq_eq_false_iff_ne]; exact hp
                generalize (es.getD (k - 1) (0, 0)).1 = po at *
                by_cases hlen : (a.length : Int) < n
                · rw [apS_long0 hn hprev hlen] at hr
                  have HRR := Lib.hid hr
                  have hdl : decide ((a.length : Int) < n) = true := decide_eq_true hlen
                  have hk1b : (0 : Int) ≤ (k : Int) - 1 := by omega
                  have hk1a : (1 : Int) ≤ (k : Int) := by omega
                  have hk1c : (k : Int) - 1 < (le : Int) := by omega
                  have hk1d : ((k : Int) - 1).toNat = k - 1 := by omega
                  have hwk : IntKind.i64.wrap ((k : Int) - 1) = (k : Int) - 1 := IntWalk.i64_in _ (by omega)
                  clear hr hprev hlen HR hk0 hp
                  go_wp2
                  go_quiet (fail)
                  clear hwk hk1d
                  go_wp2
                  go_quiet (fail)
                  go_wp2
                  go_ret2
                  rw [← HRR.out]
                  exact apRet_no _ _ _ (below_drewN (below_drewN (HA.out.bel.alloc hba _) _) _)
                · rw [apS_zero hn hprev hlen] at hr
                  obtain ⟨m, rfl⟩ : ∃ m : Nat, n = (m : Int) := ⟨n.toNat, by omega⟩
                  rw [Int.toNat_natCast] at hr
                  have hml : m ≤ a.length := by omega
                  have hdl : decide ((a.length : Int) < (m : Int)) = false := decide_eq_false hlen
                  have HRR : Hid (apS (if k + 1 = 0 then none else some (es.getD (k + 1 - 1) (0, 0)).1) _ (es.drop (k + 1)) _ _ = apS none sa es sb []) := Lib.hid (by rw [if_neg (by omega), Nat.add_sub_cancel, HGK.out]; exact hr)
                  have hk1b : (0 : Int) ≤ (k : Int) - 1 := by omega
                  have hk1a : (1 : Int) ≤ (k : Int) := by omega
                  have hk1c : (k : Int) - 1 < (le : Int) := by omega
                  have hk1d : ((k : Int) - 1).toNat = k - 1 := by omega
                  have hwk : IntKind.i64.wrap ((k : Int) - 1) = (k : Int) - 1 := IntWalk.i64_in _ (by omega)
                  clear hr hprev hlen HR hk0 hp
                  go_wp2
                  go_quiet (fail)
                  clear hwk hk1d
                  go_wp2
                  go_quiet (fail)
                  go_upto_region 17 with (fail)
                  generalize hWq : World.drewN _ _ = wq
                  have HAq : Hid (Aw w wq es TA TD a d out (.slice Ao No Co)) := Lib.hid (by rw [← hWq]; exact (HA.out.alloc _).drewN _)
                  have hX : wq.heap[wr.heap.size]? = some (.cells #[.int .i64 0, .int .i64 (m : Int)] 48 (0, 0)) := by rw [← hWq]; exact heap_alloc_new wr _
                  have hF : wq.heap[TA]? = some (.cells #[.slice A1 a.length c1] 22 (0, 0)) := by rw [← hWq]; exact (heap_alloc_old wr _ hTAlt).trans HTA1.out
                  have hRF : Rd wq w.heap.size A1 a.length c1 (sv a) := by rw [← hWq]; exact (HRA.out.below ((Below.refl _ wr).alloc hba _)).drewN _
                  clear hWq
                  have hmc : m ≤ c1 := by omega
                  have HOq := Lib.hid (show wq.drew.ownsRow w.heap.size 9 1 (.slice Ao No Co) out.length (sv out) from HAq.out.own)
                  have HTq := Lib.hid (show Rd wq.drew w.heap.size A1 m c1 (sv (a.take m)) from by have := (hRF.take m hml).drewN 1; rw [show (sv a).take m = sv (a.take m) from by simp [sv]] at this; exact this)
                  have hsq : w.heap.size ≤ wq.drew.heap.size := HAq.out.bel.size
                  have HAd := Lib.hid (show Aw w wq.drew es TA TD a d out (.slice Ao No Co) from HAq.out.drewN 1)
                  have HRFd := Lib.hid (show Rd wq.drew w.heap.size A1 a.length c1 (sv a) from hRF.drewN 1)
                  have HX := Lib.hid (show wq.drew.heap[wr.heap.size]? = some (.cells #[.int .i64 0, .int .i64 (m : Int)] 48 (0, 0)) from hX)
                  have HF := Lib.hid (show wq.drew.heap[TA]? = some (.cells #[.slice A1 a.length c1] 22 (0, 0)) from hF)
                  have cx1 : wq.cell? ⟨wr.heap.size, 1, none⟩ = some (.int .i64 (m : Int)) := cell_of_row _ _ 1 _ _ _ hX
                  have cf0 := cell_of_one hF
                  have hbnd : (out.length + m) * 16 ≤ 140737488355328 := by omega
                  clear hX hF hRF HAq
                  go_cut [8] (fun s8 wx => ∃ A5 C5, s8 = .slice A5 (out.length + m) C5 ∧ Hid (Aw w wx es TA TD a d (out ++ a.take m) (.slice A5 (out.length + m) C5)) ∧ Hid (wx.heap[wr.heap.size]? = some (.cells #[.int .i64 0, .int .i64 (m : Int)] 48 (0, 0))) ∧ Hid (wx.heap[TA]? = some (.cells #[.slice A1 a.length c1] 22 (0, 0))) ∧ Hid (Rd wx w.heap.size A1 a.length c1 (sv a)))
                  case first =>
                    have HSa : Hid (wq.drew.cell? ⟨wr.heap.size, 1, none⟩ = some (.int .i64 (m : Int)) ∧ wq.drew.cell? ⟨TA, 0, none⟩ = some (.slice A1 a.length c1)) := Lib.hid ⟨cx1, cf0⟩
                    clear cx1 cf0
                    go_region_held3 (fun wS => wS.cell? ⟨wr.heap.size, 1, none⟩ = some (.int .i64 (m : Int)) ∧ wS.cell? ⟨TA, 0, none⟩ = some (.slice A1 a.length c1)) (first | exact HSb.out | exact HSa.out) ((refine step_append_strs _ rfl (.tmp 65) (.tmp 71) rfl w.heap.size (.slice Ao No Co) out.length out rfl HOq.out w.heap.size A1 m c1 (a.take m) rfl HTq.out (out.length + m) rfl (out ++ a.take m) rfl hbnd hsq ?_; intro A5 C5 w5 ho5 hb5 hk5; have HO5 := Lib.hid ho5; have HB5 := Lib.hid hb5; have HK5 := Lib.hid hk5; have hX5 := hk5.block _ _ _ _ HX.out (by decide); have hF5 := hk5.block _ _ _ _ HF.out (by decide); have HSb : Hid (w5.cell? ⟨wr.heap.size, 1, none⟩ = some (.int .i64 (m : Int)) ∧ w5.cell? ⟨TA, 0, none⟩ = some (.slice A1 a.length c1)) := Lib.hid ⟨cell_of_row _ _ 1 _ _ _ hX5, cell_of_one hF5⟩; clear ho5 hb5 hk5 hX5 hF5))
                    have ho5 := HO5.out
                    rw [show out.length + m = (out ++ a.take m).length from by simp; omega] at ho5
                    have HA5 := Lib.hid (HAd.out.kp HK5.out HB5.out ho5)
                    rw [show (out ++ a.take m).length = out.length + m from by simp; omega] at HA5
                    have hX5 := Lib.hid (HK5.out.block _ _ _ _ HX.out (by decide))
                    have hF5 := Lib.hid (HK5.out.block _ _ _ _ HF.out (by decide))
                    have hR5 := Lib.hid (HRFd.out.below HB5.out)
                    clear ho5 HO5 HOq HTq
                    go_wp2_with fail
                    go_meet
                    exact ⟨_, _, rfl, HA5, hX5, hF5, hR5⟩
                  case rest =>
                    obtain ⟨A5, C5, rfl, HA5, HX5, HF5, HR5⟩ := hcut
                    have hX5 := HX5.out
                    have hF5 := HF5.out
                    have hR5 := HR5.out
                    clear cx1 cf0 HOq HTq HAd HRFd HX HF HX5 HF5 HR5
                    obtain ⟨A9, hA9⟩ : ∃ A, (if c1 = m then A1 else Option.map (fun x => x.add m) A1) = A := ⟨_, rfl⟩
                    have hr9 := (hR5.cut m hml).drewN 1
                    rw [hA9, show (sv a).drop m = sv (a.drop m) from by simp [sv]] at hr9
                    have HR9 := Lib.hid hr9
                    clear hr9
                    have cx1 := (cell_of_row _ _ 1 _ _ _ hX5).trans (show (#[Value.int .i64 0, .int .i64 (m : Int)] : Array Value)[1]? = some (.int .i64 (m : Int)) from rfl)
                    have cf0 := cell_of_one hF5
                    have ff0 := free_of_one hF5
                    clear hX5 hF5 hR5
                    go_wp2_with fail
                    go_region
                    go_wp2
                    go_roundw
                    case rel => exact ⟨k + 1, a.drop m, d, out ++ a.take m, by omega, by go_num, Lib.hid (by exact Aw.seta (HA5.out.drewN 1) (by simp) HR9.out), HRR, by simp; omega⟩
                    case measure => simp [intOf]; omega
        · have hop1 : True := trivial
          by_cases hn : n < 1
          · rw [apS_small (by simp) hn] at hr
            have HRR := Lib.hid hr
            have hdn : decide (n < 1) = true := by simp; omega
            clear hr
            go_wp2
            go_ret2
            rw [← HRR.out]
            exact apRet_no _ _ _ (HA.out.bel.alloc hba _)
          · have hdn : decide (n < 1) = false := by simp; omega
            by_cases hk0 : k = 0
            · have hprev : (if k = 0 then (none : Option Int) else some (es.getD (k - 1) (0, 0)).1) ≠ some 1 := by
                rw [if_pos hk0]; simp
              have hdk : decide (0 < k) = false := decide_eq_false (by omega)
              by_cases hlen : (a.length : Int) < n
              · rw [apS_long1 hn hprev hlen] at hr
                have HRR := Lib.hid hr
                have hdl : decide ((a.length : Int) < n) = true := decide_eq_true hlen
                clear hr hprev hlen HR hk0
                go_wp2
                go_quiet (fail)
                go_wp2
                go_quiet (fail)
                go_wp2
                go_ret2
                rw [← HRR.out]
                exact apRet_no _ _ _ (below_drewN (below_drewN (HA.out.bel.alloc hba _) _) _)
              · rw [apS_one hn hprev hlen] at hr
                obtain ⟨m, rfl⟩ : ∃ m : Nat, n = (m : Int) := ⟨n.toNat, by omega⟩
                rw [Int.toNat_natCast] at hr
                have hml : m ≤ a.length := by omega
                have hdl : decide ((a.length : Int) < (m : Int)) = false := decide_eq_false hlen
                have HRR : Hid (apS (if k + 1 = 0 then none else some (es.getD (k + 1 - 1) (0, 0)).1) _ (es.drop (k + 1)) _ _ = apS none sa es sb []) := Lib.hid (by rw [if_neg (by omega), Nat.add_sub_cancel, HGK.out]; exact hr)
                clear hr hprev hlen HR hk0
                go_wp2
                go_quiet (fail)
                go_wp2
                go_quiet (fail)
                go_upto_region 18 with (fail)
                generalize hWq : World.drewN _ _ = w5
                have HAq : Hid (Aw w w5 es TA TD a d out (.slice Ao No Co)) := Lib.hid (by rw [← hWq]; exact (HA.out.alloc _).drewN _)
                have hX : w5.heap[wr.heap.size]? = some (.cells #[.int .i64 1, .int .i64 (m : Int)] 48 (0, 0)) := by rw [← hWq]; exact heap_alloc_new wr _
                have hF : w5.heap[TA]? = some (.cells #[.slice A1 a.length c1] 22 (0, 0)) := by rw [← hWq]; exact (heap_alloc_old wr _ hTAlt).trans HTA1.out
                have hRF : Rd w5 w.heap.size A1 a.length c1 (sv a) := by rw [← hWq]; exact (HRA.out.below ((Below.refl _ wr).alloc hba _)).drewN _
                clear hWq
                have hmc : m ≤ c1 := by omega
                have hX5 := hX
                have hF5 := hF
                have hR5 := hRF
                have HA5 := HAq
                clear hX hF hRF HAq
                obtain ⟨A9, hA9⟩ : ∃ A, (if c1 = m then A1 else Option.map (fun x => x.add m) A1) = A := ⟨_, rfl⟩
                have hr9 := (hR5.cut m hml).drewN 1
                rw [hA9, show (sv a).drop m = sv (a.drop m) from by simp [sv]] at hr9
                have HR9 := Lib.hid hr9
                clear hr9
                have cx1 := (cell_of_row _ _ 1 _ _ _ hX5).trans (show (#[Value.int .i64 1, .int .i64 (m : Int)] : Array Value)[1]? = some (.int .i64 (m : Int)) from rfl)
                have cf0 := cell_of_one hF5
                have ff0 := free_of_one hF5
                clear hX5 hF5 hR5
                go_wp2_with fail
                go_region
                go_wp2
                go_roundw
                case rel => exact ⟨k + 1, a.drop m, d, out, by omega, by go_num, Lib.hid (by exact Aw.seta (HA5.out.drewN 1) (by simp) HR9.out), HRR, by simp; omega⟩
                case measure => simp [intOf]; omega
            · have hk1 : k - 1 < es.length := by omega
              obtain ⟨xp, op', hbe', p1, p2, p3⟩ := (HE.out.below HA.out.bel).hcell (k - 1) hk1
              simp only [Option.some.injEq, Addr.mk.injEq, and_true] at hbe'
              obtain ⟨rfl, rfl⟩ := hbe'
              have hgp : (es[k - 1]'hk1).1 = (es.getD (k - 1) (0, 0)).1 := by simp [List.getD, hk1]
              rw [hgp] at p2
              clear p1 p3 hgp
              by_cases hp : (es.getD (k - 1) (0, 0)).1 = 1
              · rw [apS_same (by simp) hn (by rw [if_neg hk0, hp])] at hr
                have HRR := Lib.hid hr
                have hdk : decide (0 < k) = true := decide_eq_true (by omega)
                rw [hp] at p2
                have hk1b : (0 : Int) ≤ (k : Int) - 1 := by omega
                have hk1a : (1 : Int) ≤ (k : Int) := by omega
                have hk1c : (k : Int) - 1 < (le : Int) := by omega
                have hk1d : ((k : Int) - 1).toNat = k - 1 := by omega
                have hwk : IntKind.i64.wrap ((k : Int) - 1) = (k : Int) - 1 := IntWalk.i64_in _ (by omega)
                clear hr hp HR hk0
                go_wp2
                go_quiet (fail)
                clear hwk hk1d
                go_wp2
                go_ret2
                rw [← HRR.out]
                exact apRet_no _ _ _ (below_drewN (HA.out.bel.alloc hba _) _)
              · have hprev : (if k = 0 then (none : Option Int) else some (es.getD (k - 1) (0, 0)).1) ≠ some 1 := by
                  rw [if_neg hk0]; intro e; injection e with e; exact hp e
                have hdk : decide (0 < k) = true := decide_eq_true (by omega)
                have hpo : ((es.getD (k - 1) (0, 0)).1 == (1 : Int)) = false := by simp only [beq_eq_false_iff_ne]; exact hp
                generalize (es.getD (k - 1) (0, 0)).1 = po at *
                by_cases hlen : (a.length : Int) < n
                · rw [apS_long1 hn hprev hlen] at hr
                  have HRR := Lib.hid hr
                  have hdl : decide ((a.length : Int) < n) = true := decide_eq_true hlen
                  have hk1b : (0 : Int) ≤ (k : Int) - 1 := by omega
                  have hk1a : (1 : Int) ≤ (k : Int) := by omega
                  have hk1c : (k : Int) - 1 < (le : Int) := by omega
                  have hk1d : ((k : Int) - 1).toNat = k - 1 := by omega
                  have hwk : IntKind.i64.wrap ((k : Int) - 1) = (k : Int) - 1 := IntWalk.i64_in _ (by omega)
                  clear hr hprev hlen HR hk0 hp
                  go_wp2
                  go_quiet (fail)
                  clear hwk hk1d
                  go_wp2
                  go_quiet (fail)
                  go_wp2
                  go_ret2
                  rw [← HRR.out]
                  exact apRet_no _ _ _ (below_drewN (below_drewN (HA.out.bel.alloc hba _) _) _)
                · rw [apS_one hn hprev hlen] at hr
                  obtain ⟨m, rfl⟩ : ∃ m : Nat, n = (m : Int) := ⟨n.toNat, by omega⟩
                  rw [Int.toNat_natCast] at hr
                  have hml : m ≤ a.length := by omega
                  have hdl : decide ((a.length : Int) < (m : Int)) = false := decide_eq_false hlen
                  have HRR : Hid (apS (if k + 1 = 0 then none else some (es.getD (k + 1 - 1) (0, 0)).1) _ (es.drop (k + 1)) _ _ = apS none sa es sb []) := Lib.hid (by rw [if_neg (by omega), Nat.add_sub_cancel, HGK.out]; exact hr)
                  have hk1b : (0 : Int) ≤ (k : Int) - 1 := by omega
                  have hk1a : (1 : Int) ≤ (k : Int) := by omega
                  have hk1c : (k : Int) - 1 < (le : Int) := by omega
                  have hk1d : ((k : Int) - 1).toNat = k - 1 := by omega
                  have hwk : IntKind.i64.wrap ((k : Int) - 1) = (k : Int) - 1 := IntWalk.i64_in _ (by omega)
                  clear hr hprev hlen HR hk0 hp
                  go_wp2
                  go_quiet (fail)
                  clear hwk hk1d
                  go_wp2
                  go_quiet (fail)
                  go_upto_region 18 with (fail)
                  generalize hWq : World.drewN _ _ = w5
                  have HAq : Hid (Aw w w5 es TA TD a d out (.slice Ao No Co)) := Lib.hid (by rw [← hWq]; exact (HA.out.alloc _).drewN _)
                  have hX : w5.heap[wr.heap.size]? = some (.cells #[.int .i64 1, .int .i64 (m : Int)] 48 (0, 0)) := by rw [← hWq]; exact heap_alloc_new wr _
                  have hF : w5.heap[TA]? = some (.cells #[.slice A1 a.length c1] 22 (0, 0)) := by rw [← hWq]; exact (heap_alloc_old wr _ hTAlt).trans HTA1.out
                  have hRF : Rd w5 w.heap.size A1 a.length c1 (sv a) := by rw [← hWq]; exact (HRA.out.below ((Below.refl _ wr).alloc hba _)).drewN _
                  clear hWq
                  have hmc : m ≤ c1 := by omega
                  have hX5 := hX
                  have hF5 := hF
                  have hR5 := hRF
                  have HA5 := HAq
                  clear hX hF hRF HAq
                  obtain ⟨A9, hA9⟩ : ∃ A, (if c1 = m then A1 else Option.map (fun x => x.add m) A1) = A := ⟨_, rfl⟩
                  have hr9 := (hR5.cut m hml).drewN 1
                  rw [hA9, show (sv a).drop m = sv (a.drop m) from by simp [sv]] at hr9
                  have HR9 := Lib.hid hr9
                  clear hr9
                  have cx1 := (cell_of_row _ _ 1 _ _ _ hX5).trans (show (#[Value.int .i64 1, .int .i64 (m : Int)] : Array Value)[1]? = some (.int .i64 (m : Int)) from rfl)
                  have cf0 := cell_of_one hF5
                  have ff0 := free_of_one hF5
                  clear hX5 hF5 hR5
                  go_wp2_with fail
                  go_region
                  go_wp2
                  go_roundw
                  case rel => exact ⟨k + 1, a.drop m, d, out, by omega, by go_num, Lib.hid (by exact Aw.seta (HA5.out.drewN 1) (by simp) HR9.out), HRR, by simp; omega⟩
                  case measure => simp [intOf]; omega
        · have hop2 : True := trivial
          by_cases hn : n < 1
          · rw [apS_small (by simp) hn] at hr
            have HRR := Lib.hid hr
            have hdn : decide (n < 1) = true := by simp; omega
            clear hr
            go_wp2
            go_ret2
            rw [← HRR.out]
            exact apRet_no _ _ _ (HA.out.bel.alloc hba _)
          · have hdn : decide (n < 1) = false := by simp; omega
            by_cases hk0 : k = 0
            · have hprev : (if k = 0 then (none : Option Int) else some (es.getD (k - 1) (0, 0)).1) ≠ some 2 := by
                rw [if_pos hk0]; simp
              have hdk : decide (0 < k) = false := decide_eq_false (by omega)
              by_cases hlen : (d.length : Int) < n
              · rw [apS_long2 hn hprev hlen] at hr
                have HRR := Lib.hid hr
                have hdl : decide ((d.length : Int) < n) = true := decide_eq_true hlen
                clear hr hprev hlen HR hk0
                go_wp2
                go_quiet (fail)
                go_wp2
                go_quiet (fail)
                go_wp2
                go_ret2
                rw [← HRR.out]
                exact apRet_no _ _ _ (below_drewN (below_drewN (HA.out.bel.alloc hba _) _) _)
              · rw [apS_two hn hprev hlen] at hr
                obtain ⟨m, rfl⟩ : ∃ m : Nat, n = (m : Int) := ⟨n.toNat, by omega⟩
                rw [Int.toNat_natCast] at hr
                have hml : m ≤ d.length := by omega
                have hdl : decide ((d.length : Int) < (m : Int)) = false := decide_eq_false hlen
                have HRR : Hid (apS (if k + 1 = 0 then none else some (es.getD (k + 1 - 1) (0, 0)).1) _ (es.drop (k + 1)) _ _ = apS none sa es sb []) := Lib.hid (by rw [if_neg (by omega), Nat.add_sub_cancel, HGK.out]; exact hr)
                clear hr hprev hlen HR hk0
                go_wp2
                go_quiet (fail)
                go_wp2
                go_quiet (fail)
                go_upto_region 17 with (fail)
                generalize hWq : World.drewN _ _ = wq
                have HAq : Hid (Aw w wq es TA TD a d out (.slice Ao No Co)) := Lib.hid (by rw [← hWq]; exact (HA.out.alloc _).drewN _)
                have hX : wq.heap[wr.heap.size]? = some (.cells #[.int .i64 2, .int .i64 (m : Int)] 48 (0, 0)) := by rw [← hWq]; exact heap_alloc_new wr _
                have hF : wq.heap[TD]? = some (.cells #[.slice A2 d.length c2] 22 (0, 0)) := by rw [← hWq]; exact (heap_alloc_old wr _ hTDlt).trans HTD1.out
                have hRF : Rd wq w.heap.size A2 d.length c2 (sv d) := by rw [← hWq]; exact (HRD.out.below ((Below.refl _ wr).alloc hba _)).drewN _
                clear hWq
                have hmc : m ≤ c2 := by omega
                have HOq := Lib.hid (show wq.drew.ownsRow w.heap.size 9 1 (.slice Ao No Co) out.length (sv out) from HAq.out.own)
                have HTq := Lib.hid (show Rd wq.drew w.heap.size A2 m c2 (sv (d.take m)) from by have := (hRF.take m hml).drewN 1; rw [show (sv d).take m = sv (d.take m) from by simp [sv]] at this; exact this)
                have hsq : w.heap.size ≤ wq.drew.heap.size := HAq.out.bel.size
                have HAd := Lib.hid (show Aw w wq.drew es TA TD a d out (.slice Ao No Co) from HAq.out.drewN 1)
                have HRFd := Lib.hid (show Rd wq.drew w.heap.size A2 d.length c2 (sv d) from hRF.drewN 1)
                have HX := Lib.hid (show wq.drew.heap[wr.heap.size]? = some (.cells #[.int .i64 2, .int .i64 (m : Int)] 48 (0, 0)) from hX)
                have HF := Lib.hid (show wq.drew.heap[TD]? = some (.cells #[.slice A2 d.length c2] 22 (0, 0)) from hF)
                have cx1 : wq.cell? ⟨wr.heap.size, 1, none⟩ = some (.int .i64 (m : Int)) := cell_of_row _ _ 1 _ _ _ hX
                have cf0 := cell_of_one hF
                have hbnd : (out.length + m) * 16 ≤ 140737488355328 := by omega
                clear hX hF hRF HAq
                go_cut [8] (fun s8 wx => ∃ A5 C5, s8 = .slice A5 (out.length + m) C5 ∧ Hid (Aw w wx es TA TD a d (out ++ d.take m) (.slice A5 (out.length + m) C5)) ∧ Hid (wx.heap[wr.heap.size]? = some (.cells #[.int .i64 2, .int .i64 (m : Int)] 48 (0, 0))) ∧ Hid (wx.heap[TD]? = some (.cells #[.slice A2 d.length c2] 22 (0, 0))) ∧ Hid (Rd wx w.heap.size A2 d.length c2 (sv d)))
                case first =>
                  have HSa : Hid (wq.drew.cell? ⟨wr.heap.size, 1, none⟩ = some (.int .i64 (m : Int)) ∧ wq.drew.cell? ⟨TD, 0, none⟩ = some (.slice A2 d.length c2)) := Lib.hid ⟨cx1, cf0⟩
                  clear cx1 cf0
                  go_region_held3 (fun wS => wS.cell? ⟨wr.heap.size, 1, none⟩ = some (.int .i64 (m : Int)) ∧ wS.cell? ⟨TD, 0, none⟩ = some (.slice A2 d.length c2)) (first | exact HSb.out | exact HSa.out) ((refine step_append_strs _ rfl (.tmp 65) (.tmp 71) rfl w.heap.size (.slice Ao No Co) out.length out rfl HOq.out w.heap.size A2 m c2 (d.take m) rfl HTq.out (out.length + m) rfl (out ++ d.take m) rfl hbnd hsq ?_; intro A5 C5 w5 ho5 hb5 hk5; have HO5 := Lib.hid ho5; have HB5 := Lib.hid hb5; have HK5 := Lib.hid hk5; have hX5 := hk5.block _ _ _ _ HX.out (by decide); have hF5 := hk5.block _ _ _ _ HF.out (by decide); have HSb : Hid (w5.cell? ⟨wr.heap.size, 1, none⟩ = some (.int .i64 (m : Int)) ∧ w5.cell? ⟨TD, 0, none⟩ = some (.slice A2 d.length c2)) := Lib.hid ⟨cell_of_row _ _ 1 _ _ _ hX5, cell_of_one hF5⟩; clear ho5 hb5 hk5 hX5 hF5))
                  have ho5 := HO5.out
                  rw [show out.length + m = (out ++ d.take m).length from by simp; omega] at ho5
                  have HA5 := Lib.hid (HAd.out.kp HK5.out HB5.out ho5)
                  rw [show (out ++ d.take m).length = out.length + m from by simp; omega] at HA5
                  have hX5 := Lib.hid (HK5.out.block _ _ _ _ HX.out (by decide))
                  have hF5 := Lib.hid (HK5.out.block _ _ _ _ HF.out (by decide))
                  have hR5 := Lib.hid (HRFd.out.below HB5.out)
                  clear ho5 HO5 HOq HTq
                  go_wp2_with fail
                  go_meet
                  exact ⟨_, _, rfl, HA5, hX5, hF5, hR5⟩
                case rest =>
                  obtain ⟨A5, C5, rfl, HA5, HX5, HF5, HR5⟩ := hcut
                  have hX5 := HX5.out
                  have hF5 := HF5.out
                  have hR5 := HR5.out
                  clear cx1 cf0 HOq HTq HAd HRFd HX HF HX5 HF5 HR5
                  obtain ⟨A9, hA9⟩ : ∃ A, (if c2 = m then A2 else Option.map (fun x => x.add m) A2) = A := ⟨_, rfl⟩
                  have hr9 := (hR5.cut m hml).drewN 1
                  rw [hA9, show (sv d).drop m = sv (d.drop m) from by simp [sv]] at hr9
                  have HR9 := Lib.hid hr9
                  clear hr9
                  have cx1 := (cell_of_row _ _ 1 _ _ _ hX5).trans (show (#[Value.int .i64 2, .int .i64 (m : Int)] : Array Value)[1]? = some (.int .i64 (m : Int)) from rfl)
                  have cf0 := cell_of_one hF5
                  have ff0 := free_of_one hF5
                  clear hX5 hF5 hR5
                  go_wp2_with fail
                  go_region
                  go_wp2
                  go_roundw
                  case rel => exact ⟨k + 1, a, d.drop m, out ++ d.take m, by omega, by go_num, Lib.hid (by exact Aw.setd (HA5.out.drewN 1) (by simp) HR9.out), HRR, by simp; omega⟩
                  case measure => simp [intOf]; omega
            · have hk1 : k - 1 < es.length := by omega
              obtain ⟨xp, op', hbe', p1, p2, p3⟩ := (HE.out.below HA.out.bel).hcell (k - 1) hk1
              simp only [Option.some.injEq, Addr.mk.injEq, and_true] at hbe'
              obtain ⟨rfl, rfl⟩ := hbe'
              have hgp : (es[k - 1]'hk1).1 = (es.getD (k - 1) (0, 0)).1 := by simp [List.getD, hk1]
              rw [hgp] at p2
              clear p1 p3 hgp
              by_cases hp : (es.getD (k - 1) (0, 0)).1 = 2
              · rw [apS_same (by simp) hn (by rw [if_neg hk0, hp])] at hr
                have HRR := Lib.hid hr
                have hdk : decide (0 < k) = true := decide_eq_true (by omega)
                rw [hp] at p2
                have hk1b : (0 : Int) ≤ (k : Int) - 1 := by omega
                have hk1a : (1 : Int) ≤ (k : Int) := by omega
                have hk1c : (k : Int) - 1 < (le : Int) := by omega
                have hk1d : ((k : Int) - 1).toNat = k - 1 := by omega
                have hwk : IntKind.i64.wrap ((k : Int) - 1) = (k : Int) - 1 := IntWalk.i64_in _ (by omega)
                clear hr hp HR hk0
                go_wp2
                go_quiet (fail)
                clear hwk hk1d
                go_wp2
                go_ret2
                rw [← HRR.out]
                exact apRet_no _ _ _ (below_drewN (HA.out.bel.alloc hba _) _)
              · have hprev : (if k = 0 then (none : Option Int) else some (es.getD (k - 1) (0, 0)).1) ≠ some 2 := by
                  rw [if_neg hk0]; intro e; injection e with e; exact hp e
                have hdk : decide (0 < k) = true := decide_eq_true (by omega)
                have hpo : ((es.getD (k - 1) (0, 0)).1 == (2 : Int)) = false := by simp only [beq_eq_false_iff_ne]; exact hp
                generalize (es.getD (k - 1) (0, 0)).1 = po at *
                by_cases hlen : (d.length : Int) < n
                · rw [apS_long2 hn hprev hlen] at hr
                  have HRR := Lib.hid hr
                  have hdl : decide ((d.length : Int) < n) = true := decide_eq_true hlen
                  have hk1b : (0 : Int) ≤ (k : Int) - 1 := by omega
                  have hk1a : (1 : Int) ≤ (k : Int) := by omega
                  have hk1c : (k : Int) - 1 < (le : Int) := by omega
                  have hk1d : ((k : Int) - 1).toNat = k - 1 := by omega
                  have hwk : IntKind.i64.wrap ((k : Int) - 1) = (k : Int) - 1 := IntWalk.i64_in _ (by omega)
                  clear hr hprev hlen HR hk0 hp
                  go_wp2
                  go_quiet (fail)
                  clear hwk hk1d
                  go_wp2
                  go_quiet (fail)
                  go_wp2
                  go_ret2
                  rw [← HRR.out]
                  exact apRet_no _ _ _ (below_drewN (below_drewN (HA.out.bel.alloc hba _) _) _)
                · rw [apS_two hn hprev hlen] at hr
                  obtain ⟨m, rfl⟩ : ∃ m : Nat, n = (m : Int) := ⟨n.toNat, by omega⟩
                  rw [Int.toNat_natCast] at hr
                  have hml : m ≤ d.length := by omega
                  have hdl : decide ((d.length : Int) < (m : Int)) = false := decide_eq_false hlen
                  have HRR : Hid (apS (if k + 1 = 0 then none else some (es.getD (k + 1 - 1) (0, 0)).1) _ (es.drop (k + 1)) _ _ = apS none sa es sb []) := Lib.hid (by rw [if_neg (by omega), Nat.add_sub_cancel, HGK.out]; exact hr)
                  have hk1b : (0 : Int) ≤ (k : Int) - 1 := by omega
                  have hk1a : (1 : Int) ≤ (k : Int) := by omega
                  have hk1c : (k : Int) - 1 < (le : Int) := by omega
                  have hk1d : ((k : Int) - 1).toNat = k - 1 := by omega
                  have hwk : IntKind.i64.wrap ((k : Int) - 1) = (k : Int) - 1 := IntWalk.i64_in _ (by omega)
                  clear hr hprev hlen HR hk0 hp
                  go_wp2
                  go_quiet (fail)
                  clear hwk hk1d
                  go_wp2
                  go_quiet (fail)
                  go_upto_region 17 with (fail)
                  generalize hWq : World.drewN _ _ = wq
                  have HAq : Hid (Aw w wq es TA TD a d out (.slice Ao No Co)) := Lib.hid (by rw [← hWq]; exact (HA.out.alloc _).drewN _)
                  have hX : wq.heap[wr.heap.size]? = some (.cells #[.int .i64 2, .int .i64 (m : Int)] 48 (0, 0)) := by rw [← hWq]; exact heap_alloc_new wr _
                  have hF : wq.heap[TD]? = some (.cells #[.slice A2 d.length c2] 22 (0, 0)) := by rw [← hWq]; exact (heap_alloc_old wr _ hTDlt).trans HTD1.out
                  have hRF : Rd wq w.heap.size A2 d.length c2 (sv d) := by rw [← hWq]; exact (HRD.out.below ((Below.refl _ wr).alloc hba _)).drewN _
                  clear hWq
                  have hmc : m ≤ c2 := by omega
                  have HOq := Lib.hid (show wq.drew.ownsRow w.heap.size 9 1 (.slice Ao No Co) out.length (sv out) from HAq.out.own)
                  have HTq := Lib.hid (show Rd wq.drew w.heap.size A2 m c2 (sv (d.take m)) from by have := (hRF.take m hml).drewN 1; rw [show (sv d).take m = sv (d.take m) from by simp [sv]] at this; exact this)
                  have hsq : w.heap.size ≤ wq.drew.heap.size := HAq.out.bel.size
                  have HAd := Lib.hid (show Aw w wq.drew es TA TD a d out (.slice Ao No Co) from HAq.out.drewN 1)
                  have HRFd := Lib.hid (show Rd wq.drew w.heap.size A2 d.length c2 (sv d) from hRF.drewN 1)
                  have HX := Lib.hid (show wq.drew.heap[wr.heap.size]? = some (.cells #[.int .i64 2, .int .i64 (m : Int)] 48 (0, 0)) from hX)
                  have HF := Lib.hid (show wq.drew.heap[TD]? = some (.cells #[.slice A2 d.length c2] 22 (0, 0)) from hF)
                  have cx1 : wq.cell? ⟨wr.heap.size, 1, none⟩ = some (.int .i64 (m : Int)) := cell_of_row _ _ 1 _ _ _ hX
                  have cf0 := cell_of_one hF
                  have hbnd : (out.length + m) * 16 ≤ 140737488355328 := by omega
                  clear hX hF hRF HAq
                  go_cut [8] (fun s8 wx => ∃ A5 C5, s8 = .slice A5 (out.length + m) C5 ∧ Hid (Aw w wx es TA TD a d (out ++ d.take m) (.slice A5 (out.length + m) C5)) ∧ Hid (wx.heap[wr.heap.size]? = some (.cells #[.int .i64 2, .int .i64 (m : Int)] 48 (0, 0))) ∧ Hid (wx.heap[TD]? = some (.cells #[.slice A2 d.length c2] 22 (0, 0))) ∧ Hid (Rd wx w.heap.size A2 d.length c2 (sv d)))
                  case first =>
                    have HSa : Hid (wq.drew.cell? ⟨wr.heap.size, 1, none⟩ = some (.int .i64 (m : Int)) ∧ wq.drew.cell? ⟨TD, 0, none⟩ = some (.slice A2 d.length c2)) := Lib.hid ⟨cx1, cf0⟩
                    clear cx1 cf0
                    go_region_held3 (fun wS => wS.cell? ⟨wr.heap.size, 1, none⟩ = some (.int .i64 (m : Int)) ∧ wS.cell? ⟨TD, 0, none⟩ = some (.slice A2 d.length c2)) (first | exact HSb.out | exact HSa.out) ((refine step_append_strs _ rfl (.tmp 65) (.tmp 71) rfl w.heap.size (.slice Ao No Co) out.length out rfl HOq.out w.heap.size A2 m c2 (d.take m) rfl HTq.out (out.length + m) rfl (out ++ d.take m) rfl hbnd hsq ?_; intro A5 C5 w5 ho5 hb5 hk5; have HO5 := Lib.hid ho5; have HB5 := Lib.hid hb5; have HK5 := Lib.hid hk5; have hX5 := hk5.block _ _ _ _ HX.out (by decide); have hF5 := hk5.block _ _ _ _ HF.out (by decide); have HSb : Hid (w5.cell? ⟨wr.heap.size, 1, none⟩ = some (.int .i64 (m : Int)) ∧ w5.cell? ⟨TD, 0, none⟩ = some (.slice A2 d.length c2)) := Lib.hid ⟨cell_of_row _ _ 1 _ _ _ hX5, cell_of_one hF5⟩; clear ho5 hb5 hk5 hX5 hF5))
                    have ho5 := HO5.out
                    rw [show out.length + m = (out ++ d.take m).length from by simp; omega] at ho5
                    have HA5 := Lib.hid (HAd.out.kp HK5.out HB5.out ho5)
                    rw [show (out ++ d.take m).length = out.length + m from by simp; omega] at HA5
                    have hX5 := Lib.hid (HK5.out.block _ _ _ _ HX.out (by decide))
                    have hF5 := Lib.hid (HK5.out.block _ _ _ _ HF.out (by decide))
                    have hR5 := Lib.hid (HRFd.out.below HB5.out)
                    clear ho5 HO5 HOq HTq
                    go_wp2_with fail
                    go_meet
                    exact ⟨_, _, rfl, HA5, hX5, hF5, hR5⟩
                  case rest =>
                    obtain ⟨A5, C5, rfl, HA5, HX5, HF5, HR5⟩ := hcut
                    have hX5 := HX5.out
                    have hF5 := HF5.out
                    have hR5 := HR5.out
                    clear cx1 cf0 HOq HTq HAd HRFd HX HF HX5 HF5 HR5
                    obtain ⟨A9, hA9⟩ : ∃ A, (if c2 = m then A2 else Option.map (fun x => x.add m) A2) = A := ⟨_, rfl⟩
                    have hr9 := (hR5.cut m hml).drewN 1
                    rw [hA9, show (sv d).drop m = sv (d.drop m) from by simp [sv]] at hr9
                    have HR9 := Lib.hid hr9
                    clear hr9
                    have cx1 := (cell_of_row _ _ 1 _ _ _ hX5).trans (show (#[Value.int .i64 2, .int .i64 (m : Int)] : Array Value)[1]? = some (.int .i64 (m : Int)) from rfl)
                    have cf0 := cell_of_one hF5
                    have ff0 := free_of_one hF5
                    clear hX5 hF5 hR5
                    go_wp2_with fail
                    go_region
                    go_wp2
                    go_roundw
                    case rel => exact ⟨k + 1, a, d.drop m, out ++ d.take m, by omega, by go_num, Lib.hid (by exact Aw.setd (HA5.out.drewN 1) (by simp) HR9.out), HRR, by simp; omega⟩
                    case measure => simp [intOf]; omega
      · rw [apS_bad hop] at hr
        have HRR := Lib.hid hr
        have b0 : (op != 0) = true := by simp; omega
        have b1 : (op != 1) = true := by simp; omega
        have b2 : (op != 2) = true := by simp; omega
        clear hr hop
        go_wp2
        go_ret2
        rw [← HRR.out]
        exact apRet_no _ _ _ (HA.out.bel.alloc hba _)
    · obtain rfl : k = le := by omega
      have hr := HR.out
      rw [List.drop_eq_nil_of_le (by omega)] at hr
      by_cases h1 : 0 < a.length
      · rw [apS_rest (.inl h1)] at hr
        have HRR := Lib.hid hr
        have hd1 : decide (0 < a.length) = true := decide_eq_true (by omega)
        clear hr
        go_wp2
        go_ret2
        rw [← HRR.out]
        exact apRet_no _ _ _ HA.out.bel
      · have hd1 : decide (0 < a.length) = false := decide_eq_false (by omega)
        by_cases h2 : 0 < d.length
        · rw [apS_rest (.inr h2)] at hr
          have HRR := Lib.hid hr
          have hd2 : decide (0 < d.length) = true := decide_eq_true (by omega)
          clear hr
          go_wp2
          go_ret2
          rw [← HRR.out]
          exact apRet_no _ _ _ HA.out.bel
        · rw [apS_end (by omega)] at hr
          have HRR := Lib.hid hr
          have hd2 : decide (0 < d.length) = false := decide_eq_false (by omega)
          clear hr
          go_wp2
          go_ret2
          rw [← HRR.out]
          exact ⟨_, rfl, HA.out.own, HA.out.bel⟩
end Go.Proofs.Ytfgmnfcakeenmaa.Ln
