/- Texts of one's own, merged: CdPutSeq, CdTxE, CdEq, CdEqM, CdEqT, CdSqS, CdMemS. -/
import Derived.Test.YtmcmapgllaopmaaMd

section
namespace Go.Proofs.Ytmcmapgllaopmaa.Cd
open Go.RowKit
set_option linter.unusedVariables false
/-- bytes that lie in the midst of a block are read -/
theorem RdB.of_range {w : World} {X o n : Nat} {l : List Int} (h : w.rangeAt X o (bv l)) (hl : l.length = n) (hX : X < w.heap.size) (hn : n ≤ 1000000) (hb : ∀ i, i < n → 0 ≤ l.getD i 0 ∧ l.getD i 0 ≤ 255) : RdB w (some ⟨X, o, Option.none⟩) n n l :=
  ⟨hl, Nat.le_refl _, by omega, by omega, fun e => (by cases e), hb, fun x hx => by
    obtain rfl := Option.some.inj hx
    refine ⟨fun _ => hX, fun i hi => ?_⟩
    rw [add_at X o i (o + i) rfl]
    exact h i _ (by simp [bv, List.getD, show i < l.length by omega])⟩
theorem RdB.lit (w : World) (x : Int) (h0 : 0 ≤ x) (h1 : x ≤ 255) : RdB (w.alloc (.cells #[.int .u8 x] 5)) (some ⟨w.heap.size, 0, Option.none⟩) 1 1 [x] :=
  RdB.of_own2 (l := [x]) (own_lit w [x] (by unfold maxLen; simp)) (by omega) (fun i hi => by
    obtain rfl : i = 0 := by omega
    exact ⟨h0, h1⟩)
/-- a row of bytes of one's own beside a row that is read: what is kept -/
structure Bs (w0 : World) (B X : Nat) (t : TypeId) (sz : Nat) (CM : List Value) (wc : World) (v : Value) (n : Nat) (E : List Int) : Prop where
  own : wc.ownsRow B 5 1 v n (bv E)
  row : wc.rowIs X t sz (fun i => CM.getD i undef)
  bel : Below B w0 wc
  kpt : KeptT w0 wc
  bas : B ≤ w0.heap.size
theorem Bs.alloc {w0 : World} {B X : Nat} {t : TypeId} {sz : Nat} {CM : List Value} {wc : World} {v : Value} {n : Nat} {E : List Int} (h : Bs w0 B X t sz CM wc v n E) (o : Obj) : Bs w0 B X t sz CM (wc.alloc o) v n E :=
  ⟨own_keep h.own ((Below.refl _ _).alloc (Nat.le_refl _) o), h.row.alloc o, h.bel.alloc (Nat.le_trans h.bas h.bel.size) o, h.kpt.trans h.bel.size (KeptT.alloc wc o), h.bas⟩
theorem Bs.next {w0 : World} {B X : Nat} {t : TypeId} {sz : Nat} {CM : List Value} {wc w' : World} {v v' : Value} {n n' : Nat} {E E' : List Int} (h : Bs w0 B X t sz CM wc v n E) (ht : t ≠ 5) (ho : w'.ownsRow B 5 1 v' n' (bv E')) (hb : Below B wc w') (hk : KeptT wc w') : Bs w0 B X t sz CM w' v' n' E' :=
  ⟨ho, hk.row h.row ht, h.bel.trans hb, h.kpt.trans h.bel.size hk, h.bas⟩
theorem Bs.keep {w0 : World} {B X : Nat} {t : TypeId} {sz : Nat} {CM : List Value} {wc w' : World} {v : Value} {n : Nat} {E : List Int} (h : Bs w0 B X t sz CM wc v n E) (hb : Below wc.heap.size wc w') : Bs w0 B X t sz CM w' v n E :=
  ⟨own_keep h.own hb, h.row.of_block (hb.block X h.row.lt), h.bel.trans (hb.mono (Nat.le_trans h.bas h.bel.size)), h.kpt.trans h.bel.size (KeptT.of_below hb), h.bas⟩
theorem Bs.ret {w0 : World} {B X : Nat} {t : TypeId} {sz : Nat} {CM : List Value} {wc w' : World} {v : Value} {n n' : Nat} {E ys : List Int} {xs : List Value} {e : Ending} (h : Bs w0 B X t sz CM wc v n E) (ht : t ≠ 5) (hr : OwnRetK B n' (bv E ++ xs) wc e w') (hx : xs = bv ys) : ∃ A' C', e = .returned (.slice A' n' C') ∧ Bs w0 B X t sz CM w' (.slice A' n' C') n' (E ++ ys) := by
  obtain ⟨v', rfl, ho, hb, hk⟩ := hr
  obtain ⟨A', C', rfl⟩ := own_slice' ho
  refine ⟨A', C', rfl, h.next ht ?_ hb hk⟩
  rw [hx, show bv E ++ bv ys = bv (E ++ ys) from by simp [bv]] at ho
  exact ho
theorem Bs.len {w0 : World} {B X : Nat} {t : TypeId} {sz : Nat} {CM : List Value} {wc : World} {v : Value} {n : Nat} {E : List Int} (h : Bs w0 B X t sz CM wc v n E) : n = E.length := by
  have := h.own.1
  simp [bv] at this
  omega
theorem Bs.base {w0 : World} {B X : Nat} {t : TypeId} {sz : Nat} {CM : List Value} {wc : World} {v : Value} {n : Nat} {E : List Int} (h : Bs w0 B X t sz CM wc v n E) : B ≤ wc.heap.size := Nat.le_trans h.bas h.bel.size
theorem txt_cells (k : Nat) (s : ByteArray) : bv (be k s.size) ++ Lib.strCells s = bv (be k s.size ++ sv s) := by
  rw [← sv_cells]; simp [bv]
def tdBs (ts : List Td) : List Int := ts.flatMap (fun t => t.dd :: t.id)
theorem tdBs_take (ts : List Td) (k : Nat) (hk : k < ts.length) : tdBs (ts.take (k + 1)) = tdBs (ts.take k) ++ ((ts.getD k default).dd :: (ts.getD k default).id) := by
  rw [take_snocI ts k hk]
  simp [tdBs]
theorem tdBs_len (ts : List Td) (h : ∀ t ∈ ts, t.id.length = 32) : (tdBs ts).length = 33 * ts.length := by
  induction ts with
  | nil => rfl
  | cons t ts ih =>
    have e : tdBs (t :: ts) = (t.dd :: t.id) ++ tdBs ts := rfl
    rw [e, List.length_append, ih (fun x hx => h x (List.mem_cons_of_mem _ hx))]
    simp [h t (by simp)]
    omega
/-- the bytes of a sequence: ahead of its steps, and behind them -/
def sqH (br : ByteArray) (og cu : List Int) (n : Nat) : List Int := be 1 br.size ++ sv br ++ og ++ cu ++ be 2 n
def sqT (dn md : Int) (st : Bool) : List Int := be 2 dn ++ be 2 md ++ [if st then 1 else 0]
def sqBs (k : Int) (br : ByteArray) (og cu : List Int) (ts : List Td) (dn md : Int) (st : Bool) : List Int :=
  k :: (if k = 0 then [] else sqH br og cu ts.length ++ tdBs ts ++ sqT dn md st)
/-- bytes of an Id -/
def IdOk (l : List Int) : Prop := l.length = 32 ∧ ∀ i, i < 32 → 0 ≤ l.getD i 0 ∧ l.getD i 0 ≤ 255
set_option maxRecDepth 100000 in
set_option maxHeartbeats 4000000 in
theorem putSeq_k (B : Nat) (v : Value) (d : List Int) (G : Nat) (k : Int) (br : ByteArray) (og cu : List Int) (A : Option Addr) (n C : Nat) (ts : List Td) (dn md : Int) (st : Bool) (w : World) (hB : B ≤ w.heap.size) (hGB : G ≤ B) (hown : w.ownsRow B 5 1 v d.length (bv d)) (hd : d.length ≤ 100000000000000)
    (ho : IdOk og) (hc : IdOk cu) (hT : RdT G w A n C ts) (hTi : ∀ t ∈ ts, IdOk t.id) (hn : n ≤ 1000000000) (hbr : br.size ≤ 1000000000) (hk0 : 0 ≤ k) (hk1 : k ≤ 255) (htd : tdB ts = true) (hn0 : 0 ≤ dn) (hn1 : dn ≤ 65535) (hm0 : 0 ≤ md) (hm1 : md ≤ 65535) :
    Calls Try.prog 70 #[v, .agg (sqV k br og cu (.slice A n C) dn md st).toArray] w (OwnRetK B (d.length + (sqBs k br og cu ts dn md st).length) (bv d ++ bv (sqBs k br og cu ts dn md st)) w) := by
  have hql := sqV_len (k := k) (br := br) (td := Value.slice A n C) (dn := dn) (md := md) (st := st) ho.1 hc.1
  have hb1 := (Below.refl B w).alloc hB (.cells (sqV k br og cu (.slice A n C) dn md st).toArray 65)
  have HX := Lib.hid (row_newL w (sqV k br og cu (.slice A n C) dn md st) 65 70 hql)
  have HSa : Hid (∀ (W : World), W.rowIs w.heap.size 65 70 (fun i => (sqV k br og cu (.slice A n C) dn md st).getD i undef) → SqAt W w.heap.size 0 k br og cu (.slice A n C) dn md st) := Lib.hid (fun W h => sq_at ho.1 hc.1 (row_range h hql))
  have HT := Lib.hid hT
  have HB := Lib.hid hb1
  have HK := Lib.hid (KeptT.alloc w (.cells (sqV k br og cu (.slice A n C) dn md st).toArray 65))
  have HO := Lib.hid (own_keep hown ((Below.refl w.heap.size w).alloc (Nat.le_refl _) (.cells (sqV k br og cu (.slice A n C) dn md st).toArray 65)))
  have HTl : Hid (ts.length = n) := Lib.hid (by have := hT.rd.len; simpa using this)
  have HTd := Lib.hid htd
  have HTi := Lib.hid hTi
  have hcap := hT.rd.cap
  have hmax := hT.rd.max
  have HIo := Lib.hid ho
  have HIc := Lib.hid hc
  have hXB : B ≤ w.heap.size := hB
  have hXl := HX.out.lt
  have hz := zeroTd
  have HZl : Hid ((Td.cells ⟨0, List.replicate 32 0⟩).toArray.size = 33) := Lib.hid (by simp [Td.cells, bv])
  generalize hZ : (Td.cells ⟨0, List.replicate 32 0⟩).toArray = Z at *
  obtain ⟨v0, C0, rfl⟩ := own_slice' hown
  have HPost : Hid (∀ (e : List Int) (A' : Option Addr) (m C' : Nat) (w' : World), e = sqBs k br og cu ts dn md st → m = d.length + e.length → w'.ownsRow B 5 1 (.slice A' m C') m (bv (d ++ e)) → Below B w w' → KeptT w w' → OwnRetK B (d.length + (sqBs k br og cu ts dn md st).length) (bv d ++ bv (sqBs k br og cu ts dn md st)) w (Ending.returned (.slice A' m C')) w') := Lib.hid (fun e A' m C' w' he hm h1 h2 h3 => by
    subst he hm
    exact ⟨_, rfl, by rw [show bv d ++ bv (sqBs k br og cu ts dn md st) = bv (d ++ sqBs k br og cu ts dn md st) from by simp [bv]]; exact h1, h2, h3⟩)
  generalize hPD : OwnRetK B (d.length + (sqBs k br og cu ts dn md st).length) (bv d ++ bv (sqBs k br og cu ts dn md st)) w = PO at *
  generalize sqV k br og cu (.slice A n C) dn md st = CM at *
  clear hPD hZ hT hTi hb1 hown hql ho hc htd
  go_enter Try.func70, Try.ntmps70
  go_upto_region 1 with (fail)
  generalize hwA : w.alloc (.cells CM.toArray 65) = wA at *
  clear hwA
  have hsA : w.heap.size ≤ wA.heap.size := by omega
  have HS0 : Hid (Bs w B w.heap.size 65 70 CM wA (.slice v0 d.length C0) d.length d) := Lib.hid ⟨HO.out, HX.out, HB.out, HK.out, hB⟩
  clear HO HX HB HK
  obtain ⟨X, hX⟩ : ∃ X, X = w.heap.size := ⟨_, rfl⟩
  rw [← hX] at HS0 HSa hXB hXl hsA ⊢
  clear hX
  have hck : wA.cell? ⟨X, 0, none⟩ = some (.int .i64 k) := (HSa.out wA HS0.out.row).c0
  have hwk : IntKind.u8.wrap k = k := by rw [IntKind.wrap_u8]; omega
  have HSl := Lib.hid (HS0.out.alloc (.cells #[.int .u8 k] 5))
  have HRl := Lib.hid (RdB.lit wA k hk0 hk1)
  go_wp2_with (refine wpList_append_k _ rfl _ _ rfl B (.slice v0 d.length C0) d.length _ rfl HSl.out.own (some ⟨wA.heap.size, 0, none⟩) 1 1 [k] rfl HRl.out (by omega) HSl.out.base ?_)
  intro A1 C1 w1 ho hb hk
  obtain ⟨n1, hn1⟩ : ∃ n1, n1 = d.length + 1 := ⟨_, rfl⟩
  rw [← hn1] at ho ⊢
  have hl1 : n1 ≤ 100000000000001 := by omega
  obtain ⟨E1, hE1⟩ : ∃ E1, E1 = d ++ [k] := ⟨_, rfl⟩
  rw [← hE1] at ho
  have HE1 := Lib.hid hE1
  have HS1 := Lib.hid (HSl.out.next (by decide) ho hb hk)
  clear hn1 ho hb hk HSl HRl HS0 hE1
  clear hck hwk
  have hck : w1.cell? ⟨X, 0, none⟩ = some (.int .i64 k) := (HSa.out w1 HS1.out.row).c0
  by_cases hkz : k = 0
  · have hd0 : (k == 0) = true := by simp [hkz]
    have HE : Hid ([k] = sqBs k br og cu ts dn md st) := Lib.hid (by unfold sqBs; rw [if_pos hkz])
    clear hkz
    go_wp2_with fail
    exact HPost.out _ _ _ _ _ HE.out (by have := HS1.out.len; rw [HE1.out, List.length_append] at this; exact this) (by rw [← HE1.out]; exact HS1.out.own) HS1.out.bel HS1.out.kpt
  · have hd0 : (k == 0) = false := by simp [hkz]
    have HE : Hid (∀ l, l = k :: (sqH br og cu ts.length ++ tdBs ts ++ sqT dn md st) → l = sqBs k br og cu ts dn md st) := Lib.hid (fun l h => by rw [h]; unfold sqBs; rw [if_neg hkz])
    clear hkz
    have hcb : w1.cell? ⟨X, 1, none⟩ = some (.string br) := (HSa.out w1 HS1.out.row).c1
    have HTx := Lib.hid (text_k B (.slice A1 n1 C1) n1 (bv E1) br 1 w1 HS1.out.base HS1.out.own (by omega) hbr (by omega))
    go_wp2_with fail
    refine HTx.out.mono ?_
    intro e w2 hr
    obtain ⟨A2, C2, rfl, hs⟩ := HS1.out.ret (by decide) hr (txt_cells 1 br)
    obtain ⟨n2, hn2⟩ : ∃ n2, n2 = n1 + 1 + br.size := ⟨_, rfl⟩
    rw [← hn2] at hs ⊢
    have hl2 : n2 ≤ 100001000000009 := by omega
    obtain ⟨E2, hE2⟩ : ∃ E2, E2 = E1 ++ (be 1 br.size ++ sv br) := ⟨_, rfl⟩
    rw [← hE2] at hs
    have HE2 := Lib.hid hE2
    have HS2 := Lib.hid hs
    clear hn2 hs hr HTx HS1 hE2
    clear hcb hck
    have HRl := Lib.hid (RdB.of_range (n := 32) ((HSa.out w2 HS2.out.row).og) HIo.out.1 HS2.out.row.lt (by omega) HIo.out.2)
    go_wp2_with (refine wpList_append_k _ rfl _ _ rfl B (.slice A2 n2 C2) n2 _ rfl HS2.out.own (some ⟨X, 2, none⟩) 32 32 og rfl HRl.out (by omega) HS2.out.base ?_)
    intro A3 C3 w3 ho hb hk
    obtain ⟨n3, hn3⟩ : ∃ n3, n3 = n2 + 32 := ⟨_, rfl⟩
    rw [← hn3] at ho ⊢
    have hl3 : n3 ≤ 100001000000041 := by omega
    obtain ⟨E3, hE3⟩ : ∃ E3, E3 = E2 ++ og := ⟨_, rfl⟩
    rw [← hE3] at ho
    have HE3 := Lib.hid hE3
    have HS3 := Lib.hid (HS2.out.next (by decide) ho hb hk)
    clear hn3 ho hb hk HRl HS2 hE3
    have HRl := Lib.hid (RdB.of_range (n := 32) ((HSa.out w3 HS3.out.row).cu) HIc.out.1 HS3.out.row.lt (by omega) HIc.out.2)
    go_wp2_with (refine wpList_append_k _ rfl _ _ rfl B (.slice A3 n3 C3) n3 _ rfl HS3.out.own (some ⟨X, 34, none⟩) 32 32 cu rfl HRl.out (by omega) HS3.out.base ?_)
    intro A4 C4 w4 ho hb hk
    obtain ⟨n4, hn4⟩ : ∃ n4, n4 = n3 + 32 := ⟨_, rfl⟩
    rw [← hn4] at ho ⊢
    have hl4 : n4 ≤ 100001000000073 := by omega
    obtain ⟨E4, hE4⟩ : ∃ E4, E4 = E3 ++ cu := ⟨_, rfl⟩
    rw [← hE4] at ho
    have HE4 := Lib.hid hE4
    have HS4 := Lib.hid (HS3.out.next (by decide) ho hb hk)
    clear hn4 ho hb hk HRl HS3 hE4
    have hct : w4.cell? ⟨X, 66, none⟩ = some (.slice A n C) := (HSa.out w4 HS4.out.row).td
    have HTx := Lib.hid (number_k B (.slice A4 n4 C4) n4 (bv E4) (n : Int) 2 w4 HS4.out.base HS4.out.own (by omega) (by omega) (by omega) (by omega))
    go_wp2_with fail
    refine HTx.out.mono ?_
    intro e w5 hr
    obtain ⟨A5, C5, rfl, hs⟩ := HS4.out.ret (by decide) hr rfl
    obtain ⟨n5, hn5⟩ : ∃ n5, n5 = n4 + 2 := ⟨_, rfl⟩
    rw [← hn5] at hs ⊢
    have hl5 : n5 ≤ 100001000000075 := by omega
    obtain ⟨E5, hE5⟩ : ∃ E5, E5 = E4 ++ be 2 (n : Int) := ⟨_, rfl⟩
    rw [← hE5] at hs
    have HE5 := Lib.hid hE5
    have HS5 := Lib.hid hs
    clear hn5 hs hr HTx HS4 hE5
    clear hct
    have hct : w5.cell? ⟨X, 66, none⟩ = some (.slice A n C) := (HSa.out w5 HS5.out.row).td
    go_wp2_with fail
    clear hct
    go_loopw [0, 38] (fun b i wr => ∃ (j m : Nat) (Ar : Option Addr) (Cr : Nat), b = .slice Ar m Cr ∧ i = .int .i64 j ∧ j ≤ n ∧ m ≤ 100001000000075 + 33 * j ∧ Hid (Bs w B X 65 70 CM wr (.slice Ar m Cr) m (E5 ++ tdBs (ts.take j)))) (fun _ i _ => n - (intOf i).toNat)
    case atStart => exact ⟨0, n5, A5, C5, rfl, rfl, Nat.zero_le _, by omega, Lib.hid (by rw [List.take_zero, show tdBs [] = [] from rfl, List.append_nil]; exact HS5.out)⟩
    case round =>
      clear HS5
      obtain ⟨j, n6, A6, C6, rfl, rfl, hj, hm, HS6⟩ := hrel
      by_cases hlt : j < n
      · have hTr := HT.out.below HS6.out.bel hGB
        obtain ⟨g, o, rfl, hgl, hcc⟩ := hTr.rd.cell (by omega)
        obtain ⟨t, ht⟩ : ∃ t, t = ts.getD j default := ⟨_, rfl⟩
        have hrg := hcc j hlt
        rw [map_getD _ (by rw [HTl.out]; exact hlt), ← ht] at hrg
        have htm : t ∈ ts := by rw [ht]; exact getD_memI (by rw [HTl.out]; exact hlt)
        have hti := HTi.out t htm
        have htl := Td.len hti.1
        have hfb : fitB t.dd 255 = true := List.all_eq_true.1 HTd.out t htm
        have hfb2 : 0 ≤ t.dd ∧ t.dd ≤ 255 := by simpa [fitB] using hfb
        have hd1 := hfb2.1
        have hd2 := hfb2.2
        have HRg := Lib.hid hrg
        have HTs : Hid ((Try.prog.info? 84).map (·.size) = some t.cells.length) := Lib.hid (by rw [htl]; exact infoTd)
        obtain ⟨hf, hrn⟩ := lay_new wr 84 33 Z t.cells infoTd HZl.out htl t.one
        have hc0 := (rg_cons hrn).1
        have HIi := Lib.hid hti
        have HF2 := Lib.hid hf
        have HY7 := Lib.hid (row_of_stored (n := 33) hf.stored htl)
        have HTC : Hid (∀ W : World, W.rowIs wr.heap.size 84 33 (fun i => t.cells.getD i undef) → W.rangeAt wr.heap.size 1 (bv t.id)) := Lib.hid (fun W h => (rg_cons (row_range h htl)).2)
        obtain ⟨Ej, hEj⟩ : ∃ Ej, Ej = E5 ++ tdBs (ts.take j) := ⟨_, rfl⟩
        have hs7 := HS6.out.keep hf.bel
        rw [← hEj] at hs7
        have HS7 := Lib.hid hs7
        have HEj := Lib.hid hEj
        have hYl : wr.heap.size < ((wr.alloc (.cells Z 84)).setCells wr.heap.size 0 t.cells).heap.size := hrn.lt_of (by rw [htl]; decide)
        have hst := tdBs_take ts j (by rw [HTl.out]; exact hlt)
        rw [← ht] at hst
        have HSt := Lib.hid hst
        have hj0 : (0 : Int) ≤ (j : Int) := by omega
        have hj1 : (j : Int) < (n : Int) := by omega
        clear hTr hcc hrg htl hf hrn hst ht htm hti hfb hfb2 HS6 hs7 hEj
        obtain ⟨dd, hdd⟩ : ∃ dd, dd = t.dd := ⟨_, rfl⟩
        obtain ⟨ti, hti⟩ : ∃ ti, ti = t.id := ⟨_, rfl⟩
        rw [← hdd] at hc0 HSt hd1 hd2
        rw [← hti] at HTC HIi HSt
        clear hdd hti
        generalize t.cells = TC at *
        go_upto_region 11 with (first
          | (refine wpList_load_mid rfl _ _ rfl g (o + j * 33) rfl TC _ HRg.out Try.underlying84 rfl HTs.out ?_)
          | (refine wpList_store_mid rfl _ _ _ rfl wr.heap.size 0 TC.toArray rfl rfl HF2.out.there HF2.out.size HF2.out.one ?_))
        change Code.wp _ _ _ _ ((wr.alloc (.cells Z 84)).setCells wr.heap.size 0 TC)
        clear HF2 HRg HTs
        generalize (wr.alloc (.cells Z 84)).setCells wr.heap.size 0 TC = w7 at *
        generalize wr.heap.size = Y at *
        have hwk : IntKind.u8.wrap dd = dd := by rw [IntKind.wrap_u8]; omega
        have HSl := Lib.hid (HS7.out.alloc (.cells #[.int .u8 dd] 5))
        have HRl := Lib.hid (RdB.lit w7 dd hd1 hd2)
        go_wp2_with (refine wpList_append_k _ rfl _ _ rfl B (.slice A6 n6 C6) n6 _ rfl HSl.out.own (some ⟨w7.heap.size, 0, none⟩) 1 1 [dd] rfl HRl.out (by omega) HSl.out.base ?_)
        intro A8 C8 w8 ho hb hk
        obtain ⟨n8, hn8⟩ : ∃ n8, n8 = n6 + 1 := ⟨_, rfl⟩
        rw [← hn8] at ho ⊢
        have hl8 : n8 ≤ 100001000000076 + 33 * j := by omega
        obtain ⟨E8, hE8⟩ : ∃ E8, E8 = Ej ++ [dd] := ⟨_, rfl⟩
        rw [← hE8] at ho
        have HE8 := Lib.hid hE8
        have HS8 := Lib.hid (HSl.out.next (by decide) ho hb hk)
        have HY8 := Lib.hid (hk.row (HY7.out.alloc (.cells #[.int .u8 dd] 5)) (by decide))
        clear hn8 ho hb hk HSl HRl HS7 hE8
        clear HY7 hwk hc0
        have HRl := Lib.hid (RdB.of_range (n := 32) (HTC.out _ HY8.out) HIi.out.1 HY8.out.lt (by omega) HIi.out.2)
        go_wp2_with (refine wpList_append_k _ rfl _ _ rfl B (.slice A8 n8 C8) n8 _ rfl HS8.out.own (some ⟨Y, 1, none⟩) 32 32 ti rfl HRl.out (by omega) HS8.out.base ?_)
        intro A9 C9 w9 ho hb hk
        obtain ⟨n9, hn9⟩ : ∃ n9, n9 = n8 + 32 := ⟨_, rfl⟩
        rw [← hn9] at ho ⊢
        have hl9 : n9 ≤ 100001000000108 + 33 * j := by omega
        obtain ⟨E9, hE9⟩ : ∃ E9, E9 = E8 ++ ti := ⟨_, rfl⟩
        rw [← hE9] at ho
        have HE9 := Lib.hid hE9
        have HS9 := Lib.hid (HS8.out.next (by decide) ho hb hk)
        clear hn9 ho hb hk HRl HS8 hE9
        have HS10 : Hid (Bs w B X 65 70 CM w9 (.slice A9 n9 C9) n9 (E5 ++ tdBs (ts.take (j + 1)))) := Lib.hid (by
          have h := HS9.out
          rw [HE9.out, HE8.out, HEj.out] at h
          rw [HSt.out]
          simpa [List.append_assoc] using h)
        clear HE8 HE9 HS9 HEj
        go_wp2_with fail
        go_roundw
        case rel => exact ⟨j + 1, n9, A9, C9, rfl, by go_num, by omega, by omega, HS10⟩
        case measure => simp [intOf]; omega
      · have ej : j = n := by omega
        have hd2 : decide ((j : Int) < (n : Int)) = false := by simp; omega
        have hS : Bs w B X 65 70 CM wr (.slice A6 n6 C6) n6 (E5 ++ tdBs ts) := by
          have h := HS6.out
          rw [ej, List.take_of_length_le (by rw [HTl.out]; exact Nat.le_refl _)] at h
          exact h
        obtain ⟨E6, hE6⟩ : ∃ E6, E6 = E5 ++ tdBs ts := ⟨_, rfl⟩
        rw [← hE6] at hS
        have HE6 := Lib.hid hE6
        have HS6b := Lib.hid hS
        have hl6 : n6 ≤ 100001000000075 + 33 * n := by omega
        clear HS6 hS hE6 ej hm
        have HS6 := HS6b
        clear HS6b
        have hcd : wr.cell? ⟨X, 67, none⟩ = some (.int .i64 dn) := by have := (HSa.out wr HS6.out.row).dn; simpa using this
        have hwd : IntKind.u64.wrap dn = dn := by rw [IntKind.wrap_u64]; omega
        have HTx := Lib.hid (number_k B (.slice A6 n6 C6) n6 (bv E6) dn 2 wr HS6.out.base HS6.out.own (by omega) (by omega) (by omega) (by omega))
        go_wp2_with fail
        refine HTx.out.mono ?_
        intro e w7 hr
        obtain ⟨A7, C7, rfl, hs⟩ := HS6.out.ret (by decide) hr rfl
        obtain ⟨n7, hn7⟩ : ∃ n7, n7 = n6 + 2 := ⟨_, rfl⟩
        rw [← hn7] at hs ⊢
        have hl7 : n7 ≤ 100001000000077 + 33 * n := by omega
        obtain ⟨E7, hE7⟩ : ∃ E7, E7 = E6 ++ be 2 dn := ⟨_, rfl⟩
        rw [← hE7] at hs
        have HE7 := Lib.hid hE7
        have HS7 := Lib.hid hs
        clear hn7 hs hr HTx HS6 hE7
        clear hcd hwd
        have hcm : w7.cell? ⟨X, 68, none⟩ = some (.int .i64 md) := by have := (HSa.out w7 HS7.out.row).md; simpa using this
        have hwm : IntKind.u64.wrap md = md := by rw [IntKind.wrap_u64]; omega
        have HTx := Lib.hid (number_k B (.slice A7 n7 C7) n7 (bv E7) md 2 w7 HS7.out.base HS7.out.own (by omega) (by omega) (by omega) (by omega))
        go_wp2_with fail
        refine HTx.out.mono ?_
        intro e w8 hr
        obtain ⟨A8, C8, rfl, hs⟩ := HS7.out.ret (by decide) hr rfl
        obtain ⟨n8, hn8⟩ : ∃ n8, n8 = n7 + 2 := ⟨_, rfl⟩
        rw [← hn8] at hs ⊢
        have hl8 : n8 ≤ 100001000000079 + 33 * n := by omega
        obtain ⟨E8, hE8⟩ : ∃ E8, E8 = E7 ++ be 2 md := ⟨_, rfl⟩
        rw [← hE8] at hs
        have HE8 := Lib.hid hE8
        have HS8 := Lib.hid hs
        clear hn8 hs hr HTx HS7 hE8
        clear hcm hwm
        have hcs : w8.cell? ⟨X, 69, none⟩ = some (.bool st) := by have := (HSa.out w8 HS8.out.row).st; simpa using this
        cases st
        · skip
          have HSl := Lib.hid (HS8.out.alloc (.cells #[.int .u8 0] 5))
          have HRl := Lib.hid (RdB.lit w8 0 (by decide) (by decide))
          go_wp2_with (refine wpList_append_k _ rfl _ _ rfl B (.slice A8 n8 C8) n8 _ rfl HSl.out.own (some ⟨w8.heap.size, 0, none⟩) 1 1 [0] rfl HRl.out (by omega) HSl.out.base ?_)
          intro A9 C9 w9 ho hb hk
          obtain ⟨n9, hn9⟩ : ∃ n9, n9 = n8 + 1 := ⟨_, rfl⟩
          rw [← hn9] at ho ⊢
          have hl9 : n9 ≤ 100001000000080 + 33 * n := by omega
          obtain ⟨E9, hE9⟩ : ∃ E9, E9 = E8 ++ [0] := ⟨_, rfl⟩
          rw [← hE9] at ho
          have HE9 := Lib.hid hE9
          have HS9 := Lib.hid (HSl.out.next (by decide) ho hb hk)
          clear hn9 ho hb hk HSl HRl HS8 hE9
          clear hcs
          go_wp2_with fail
          exact HPost.out _ A9 n9 C9 w9 (HE.out _ rfl) (by
            have := HS9.out.len
            rw [HE9.out, HE8.out, HE7.out, HE6.out, HE5.out, HE4.out, HE3.out, HE2.out, HE1.out] at this
            rw [this, HTl.out]
            simp [sqH, sqT, List.append_assoc]) (by
            have h := HS9.out.own
            rw [HE9.out, HE8.out, HE7.out, HE6.out, HE5.out, HE4.out, HE3.out, HE2.out, HE1.out] at h
            rw [HTl.out]
            simpa [sqH, sqT, List.append_assoc] using h) HS9.out.bel HS9.out.kpt
        · skip
          have HSl := Lib.hid (HS8.out.alloc (.cells #[.int .u8 1] 5))
          have HRl := Lib.hid (RdB.lit w8 1 (by decide) (by decide))
          go_wp2_with (refine wpList_append_k _ rfl _ _ rfl B (.slice A8 n8 C8) n8 _ rfl HSl.out.own (some ⟨w8.heap.size, 0, none⟩) 1 1 [1] rfl HRl.out (by omega) HSl.out.base ?_)
          intro A9 C9 w9 ho hb hk
          obtain ⟨n9, hn9⟩ : ∃ n9, n9 = n8 + 1 := ⟨_, rfl⟩
          rw [← hn9] at ho ⊢
          have hl9 : n9 ≤ 100001000000080 + 33 * n := by omega
          obtain ⟨E9, hE9⟩ : ∃ E9, E9 = E8 ++ [1] := ⟨_, rfl⟩
          rw [← hE9] at ho
          have HE9 := Lib.hid hE9
          have HS9 := Lib.hid (HSl.out.next (by decide) ho hb hk)
          clear hn9 ho hb hk HSl HRl HS8 hE9
          clear hcs
          go_wp2_with fail
          exact HPost.out _ A9 n9 C9 w9 (HE.out _ rfl) (by
            have := HS9.out.len
            rw [HE9.out, HE8.out, HE7.out, HE6.out, HE5.out, HE4.out, HE3.out, HE2.out, HE1.out] at this
            rw [this, HTl.out]
            simp [sqH, sqT, List.append_assoc]) (by
            have h := HS9.out.own
            rw [HE9.out, HE8.out, HE7.out, HE6.out, HE5.out, HE4.out, HE3.out, HE2.out, HE1.out] at h
            rw [HTl.out]
            simpa [sqH, sqT, List.append_assoc] using h) HS9.out.bel HS9.out.kpt
end Go.Proofs.Ytmcmapgllaopmaa.Cd
end

section
namespace Go.Proofs.Ytmcmapgllaopmaa.Cd
open Go.RowKit
set_option linter.unusedVariables false
/-- a sequence -/
structure SqD where
  k : Int
  br : ByteArray
  og : List Int
  cu : List Int
  ts : List Td
  dn : Int
  md : Int
  st : Bool
def SqD.zero : SqD := ⟨0, ByteArray.empty, List.replicate 32 0, List.replicate 32 0, [], 0, 0, false⟩
/-- what is asked of a sequence -/
def SqD.ask (s : SqD) (hs : Bool) : SqD := if hs = true ∧ s.k ≠ 0 then s else SqD.zero
def SqD.bytes (s : SqD) : List Int := sqBs s.k s.br s.og s.cu s.ts s.dn s.md s.st
/-- a transaction -/
structure TxD where
  hh : Bool
  hd : ByteArray
  ms : List Mv
  hs : Bool
  sq : SqD
  ys : List My
/-- why a transaction may not be -/
def txE (t : TxD) : Int :=
  if 65535 < t.ms.length ∨ 65535 < t.ys.length ∨ 65535 < (t.sq.ask t.hs).ts.length then 4
  else if lgB t.ms (akH t.hh t.hd) (t.sq.ask t.hs).br = true then 5
  else if nfB (t.sq.ask t.hs).ts (t.sq.ask t.hs).k (t.sq.ask t.hs).dn (t.sq.ask t.hs).md = false then 1 else 0
def mvB (m : Mv) : List Int := be 1 m.nm.size ++ sv m.nm ++ m.od ++ m.nw ++ (be 2 m.wy.size ++ sv m.wy)
def mvBs (ms : List Mv) : List Int := ms.flatMap mvB
def myB (y : My) : List Int := y.key ++ be 4 y.n ++ y.l
def myBs (ys : List My) : List Int := ys.flatMap myB
def fgB (hh hs : Bool) : Int := (if hh = true then 1 else 0) + (if hs = true then 2 else 0)
/-- a transaction's bytes -/
def txB (t : TxD) : List Int :=
  fgB t.hh t.hs :: ((if t.hh = true then be 1 t.hd.size ++ sv t.hd else []) ++ be 2 t.ms.length ++ mvBs t.ms ++ (if t.hs = true then (t.sq.ask t.hs).bytes else []) ++ be 2 t.ys.length ++ myBs t.ys)
theorem mvBs_take (ms : List Mv) (k : Nat) (hk : k < ms.length) : mvBs (ms.take (k + 1)) = mvBs (ms.take k) ++ mvB (ms.getD k default) := by
  rw [take_snocI ms k hk]
  simp [mvBs]
theorem myBs_take (ys : List My) (k : Nat) (hk : k < ys.length) : myBs (ys.take (k + 1)) = myBs (ys.take k) ++ myB (ys.getD k default) := by
  rw [take_snocI ys k hk]
  simp [myBs]
/-- what EncodeTx hands back -/
def TxRet (t : TxD) (w : World) (e : Ending) (w' : World) : Prop :=
  Below w.heap.size w w' ∧
  ((txE t ≠ 0 ∧ e = .returned (.tuple #[.slice none 0 0, .int .i64 (txE t)])) ∨
   (txE t = 0 ∧ ∃ A C, e = .returned (.tuple #[.slice A (txB t).length C, .int .i64 0]) ∧ w'.ownsRow w.heap.size 5 1 (.slice A (txB t).length C) (txB t).length (bv (txB t))))
theorem idZ_ok : IdOk (List.replicate 32 0) := ⟨by simp, fun i hi => by rw [List.getD_eq_getElem?_getD, List.getElem?_replicate, if_pos hi]; simp⟩
/-- what is asked, in cells and plainly -/
theorem ak_form (G : Nat) (hs : Bool) (k : Int) (br : ByteArray) (og cu : List Int) (A : Option Addr) (n C : Nat) (ts : List Td) (dn md : Int) (st : Bool) (w : World) (ho : IdOk og) (hc : IdOk cu) (hT : RdT G w A n C ts) (hTi : ∀ t ∈ ts, IdOk t.id) (hn : n ≤ 1000000000) (hbr : br.size ≤ 1000000000) :
    ∃ (k' : Int) (br' : ByteArray) (og' cu' : List Int) (A' : Option Addr) (n' C' : Nat) (ts' : List Td) (dn' md' : Int) (st' : Bool),
      akS hs k (sqV k br og cu (.slice A n C) dn md st) = sqV k' br' og' cu' (.slice A' n' C') dn' md' st' ∧ (⟨k, br, og, cu, ts, dn, md, st⟩ : SqD).ask hs = ⟨k', br', og', cu', ts', dn', md', st'⟩ ∧
      IdOk og' ∧ IdOk cu' ∧ RdT G w A' n' C' ts' ∧ (∀ t ∈ ts', IdOk t.id) ∧ n' ≤ 1000000000 ∧ br'.size ≤ 1000000000 := by
  by_cases h : hs = true ∧ k ≠ 0
  · exact ⟨k, br, og, cu, A, n, C, ts, dn, md, st, by rw [akS, if_pos h], by rw [SqD.ask, if_pos h], ho, hc, hT, hTi, hn, hbr⟩
  · refine ⟨0, ByteArray.empty, List.replicate 32 0, List.replicate 32 0, none, 0, 0, [], 0, 0, false, by rw [akS, if_neg h]; rfl, by rw [SqD.ask, if_neg h]; rfl, ?_, ?_, ?_, fun t ht => absurd ht (by simp), by omega, by decide⟩
    · exact idZ_ok
    · exact idZ_ok
    · exact ⟨⟨rfl, Nat.le_refl _, by omega, fun c hc => absurd hc (by simp), fun h0 => absurd h0 (by omega)⟩, fun t ht => absurd ht (by simp)⟩
theorem own_set0 {w : World} {B g n c : Nat} {x y : Int} {E : List Int} (h : w.ownsRow B 5 1 (.slice (some ⟨g, 0, none⟩) n c) n (bv (x :: E))) :
    w.cell? ⟨g, 0, none⟩ = some (.int .u8 x) ∧ w.frozen? ⟨g, 0, none⟩ = false ∧ B ≤ g ∧ (w.setCell ⟨g, 0, none⟩ (.int .u8 y)).ownsRow B 5 1 (.slice (some ⟨g, 0, none⟩) n c) n (bv (y :: E)) ∧ KeptT w (w.setCell ⟨g, 0, none⟩ (.int .u8 y)) := by
  have hl := h.1
  have hn : 0 < n := by simp [bv] at hl; omega
  obtain ⟨hs, hg⟩ := h.stored 0 (.int .u8 y)
  have hb : B ≤ g := by
    rcases h.2 with ⟨hv, -⟩ | ⟨g', cap, cur, hv, hg', -⟩
    · simp at hv
    · simp only [Value.slice.injEq, Option.some.injEq, Addr.mk.injEq, and_true, true_and] at hv
      obtain ⟨rfl, -⟩ := hv
      exact hg'
  refine ⟨?_, h.frozenAt 0, hb, ?_, KeptT.own h hg⟩
  · rw [h.cellAt 0 (by omega)]; rfl
  · exact hs
end Go.Proofs.Ytmcmapgllaopmaa.Cd
end

section
namespace Go.Proofs.Ytmcmapgllaopmaa.Cd
open Go.RowKit
set_option linter.unusedVariables false
theorem wpList_load_gd {ops : Array Oper} {rest : List Oper} {op : Oper} {a : Act} {w : World} {Q : Exit → Act → World → Prop} (hw : Region.wanted op (yielded ops a.tmps) = true) (ty : TypeId) (x : Operand) (ho : op.op = .load ty x)
    (b o : Nat) (hx : a.eval x = .pointer (some ⟨b, o, none⟩)) (cs : List Value) (d : TypeDesc) (hc : w.rangeAt b o cs)
    (hu : Try.prog.underlying ty = some d) (hd : d.isRow = true) (hi : (Try.prog.info? ty).map (·.size) = some cs.length)
    (h : wpList Try.prog ops Q rest (a.put op.dst (.agg cs.toArray)) w) : wpList Try.prog ops Q (op :: rest) a w :=
  wpList_step fun K hK => by
    rw [if_pos hw]
    exact wp_load_mid ty x ho b o hx cs d hc hu hd hi (hK _ _ h)
/-- as wpList_load_gd; the walk stands still behind it -/
theorem wpList_load_stop {ops : Array Oper} {rest : List Oper} {op : Oper} {a : Act} {w : World} {Q : Exit → Act → World → Prop} (hw : Region.wanted op (yielded ops a.tmps) = true) (ty : TypeId) (x : Operand) (ho : op.op = .load ty x)
    (b o : Nat) (hx : a.eval x = .pointer (some ⟨b, o, none⟩)) (cs : List Value) (d : TypeDesc) (hc : w.rangeAt b o cs)
    (hu : Try.prog.underlying ty = some d) (hd : d.isRow = true) (hi : (Try.prog.info? ty).map (·.size) = some cs.length)
    (h : ∀ c, Hid (c = cs.toArray) → wpList Try.prog ops Q rest (a.put op.dst (.agg c)) w) : wpList Try.prog ops Q (op :: rest) a w :=
  wpList_load_gd hw ty x ho b o hx cs d hc hu hd hi (h _ (Lib.hid rfl))
/-- the fields of two values, one after the other -/
inductive FEq (w : World) (d : Nat) (E1 E2 : Array Value) : List Field → List Bool → Prop
  | nil : FEq w d E1 E2 [] []
  | cons {f : Field} {fs : List Field} {b : Bool} {bs : List Bool} (v1 v2 : Value) : f.name ≠ "_" → (part f.type E1 f.offset).run Try.prog w = .ok v1 w → (part f.type E2 f.offset).run Try.prog w = .ok v2 w → (Op.equalIn d f.type v1 v2).run Try.prog w = .ok b w → FEq w d E1 E2 fs bs → FEq w d E1 E2 (f :: fs) (b :: bs)
theorem fieldsEq {w : World} {d : Nat} {E1 E2 : Array Value} {fs : List Field} {bs : List Bool} (h : FEq w d E1 E2 fs bs) : (Op.eqFields d E1 E2 fs).run Try.prog w = .ok (bs.all id) w := by
  induction h with
  | nil => rfl
  | cons v1 v2 hn h1 h2 h3 _ ih =>
    rename_i b bs _
    cases b
    · simp only [Op.eqFields, hn, ne_eq, not_false_eq_true, if_true, Sem.run_bind, h1, h2, h3, Result.andThen_ok, Bool.not_false, Sem.run_pure, List.all_cons, id_eq, Bool.false_and]
    · simp only [Op.eqFields, hn, ne_eq, not_false_eq_true, if_true, Sem.run_bind, h1, h2, h3, ih, Result.andThen_ok, Bool.not_true, Bool.false_eq_true, if_false, List.all_cons, id_eq, Bool.true_and]
theorem part_ids {E : List Value} {off : Nat} {ids : List Int} (h : List.take 32 (List.drop off E) = bv ids) (w : World) : (part 37 E.toArray off).run Try.prog w = .ok (.agg (bv ids).toArray) w := by
  obtain ⟨i, hi⟩ := info_of_underlying (P := Try.prog) Try.underlying37
  have hs : (Try.prog.info? 37).map (·.size) = some 32 := by kernel_rfl
  rw [hi] at hs
  have hsz : i.size = 32 := by simpa using hs
  unfold part isAgg
  simp only [Sem.run_bind, run_underlying Try.underlying37, Result.andThen_ok, Sem.run_pure]
  simp [sizeOf, typeInfo, hi, hsz, h]
def sEq (a b : ByteArray) : Bool := a.toList == b.toList
def mvEq (a b : Mv) : Bool := [sEq a.nm b.nm, decide (a.od = b.od), decide (a.nw = b.nw), sEq a.wy b.wy].all id
def tdEq (a b : Td) : Bool := [a.dd == b.dd, decide (a.id = b.id)].all id
theorem mvFields : ∃ f0 f1 f2 f3 : Field, (Try.prog.fieldsOf 126).toList = [f0, f1, f2, f3] ∧ (f0.name ≠ "_" ∧ f1.name ≠ "_" ∧ f2.name ≠ "_" ∧ f3.name ≠ "_") ∧ (f0.type = 9 ∧ f1.type = 37 ∧ f2.type = 37 ∧ f3.type = 9) ∧ (f0.offset = 0 ∧ f1.offset = 1 ∧ f2.offset = 33 ∧ f3.offset = 65) := by
  unfold Program.fieldsOf
  rw [Try.underlying126]
  exact ⟨_, _, _, _, rfl, ⟨by decide, by decide, by decide, by decide⟩, ⟨rfl, rfl, rfl, rfl⟩, ⟨rfl, rfl, rfl, rfl⟩⟩
theorem tdFields : ∃ f0 f1 : Field, (Try.prog.fieldsOf 84).toList = [f0, f1] ∧ (f0.name ≠ "_" ∧ f1.name ≠ "_") ∧ (f0.type = 3 ∧ f1.type = 37) ∧ (f0.offset = 0 ∧ f1.offset = 1) := by
  unfold Program.fieldsOf
  rw [Try.underlying84]
  exact ⟨_, _, rfl, ⟨by decide, by decide⟩, ⟨rfl, rfl⟩, ⟨rfl, rfl⟩⟩
theorem mv_get65 {m : Mv} (h1 : m.od.length = 32) (h2 : m.nw.length = 32) : m.cells.toArray[65]? = some (.string m.wy) := by
  simp [Mv.cells, bv_len, h1, h2]
theorem mv_eq (a b : Mv) (ha : a.od.length = 32 ∧ a.nw.length = 32) (hb : b.od.length = 32 ∧ b.nw.length = 32) (w : World) :
    (Op.equalIn 10000 126 (.agg a.cells.toArray) (.agg b.cells.toArray)).run Try.prog w = .ok (mvEq a b) w := by
  obtain ⟨f0, f1, f2, f3, hf, ⟨n0, n1, n2, n3⟩, ⟨t0, t1, t2, t3⟩, ⟨o0, o1, o2, o3⟩⟩ := mvFields
  have hu : Try.prog.underlying 126 = some (.struct (Try.prog.fieldsOf 126)) := by
    unfold Program.fieldsOf
    rw [Try.underlying126]
  rw [run_equalIn_struct w 9999 126 _ _ hu (by kernel_rfl), hf]
  have d1 : ∀ m : Mv, m.od.length = 32 → List.take 32 (List.drop 1 m.cells) = bv m.od := fun m h => by
    rw [show List.drop 1 m.cells = bv m.od ++ (bv m.nw ++ [.string m.wy]) from rfl, List.take_append_of_le_length (by rw [bv_len]; omega), List.take_of_length_le (by rw [bv_len]; omega)]
  have d2 : ∀ m : Mv, m.od.length = 32 → m.nw.length = 32 → List.take 32 (List.drop 33 m.cells) = bv m.nw := fun m h h' => by
    rw [show List.drop 33 m.cells = List.drop 32 (bv m.od ++ (bv m.nw ++ [.string m.wy])) from rfl, List.drop_append_of_le_length (by rw [bv_len]; omega), List.drop_of_length_le (by rw [bv_len]; omega), List.nil_append, List.take_append_of_le_length (by rw [bv_len]; omega), List.take_of_length_le (by rw [bv_len]; omega)]
  refine fieldsEq (.cons (.string a.nm) (.string b.nm) n0 ?_ ?_ ?_ (.cons (.agg (bv a.od).toArray) (.agg (bv b.od).toArray) n1 ?_ ?_ ?_ (.cons (.agg (bv a.nw).toArray) (.agg (bv b.nw).toArray) n2 ?_ ?_ ?_ (.cons (.string a.wy) (.string b.wy) n3 ?_ ?_ ?_ .nil))))
  · rw [t0, o0]; exact run_part_plain (P := Try.prog) w (e := 9) (by kernel_rfl) (xs := a.cells.toArray) (off := 0) (v := .string a.nm) rfl
  · rw [t0, o0]; exact run_part_plain (P := Try.prog) w (e := 9) (by kernel_rfl) (xs := b.cells.toArray) (off := 0) (v := .string b.nm) rfl
  · rw [t0]; exact run_equalIn_string w 9998 9 _ _ Try.underlying9
  · rw [t1, o1]; exact part_ids (d1 a ha.1) w
  · rw [t1, o1]; exact part_ids (d1 b hb.1) w
  · rw [t1]; exact ids_eq9998 _ _ ha.1 hb.1 w
  · rw [t2, o2]; exact part_ids (d2 a ha.1 ha.2) w
  · rw [t2, o2]; exact part_ids (d2 b hb.1 hb.2) w
  · rw [t2]; exact ids_eq9998 _ _ ha.2 hb.2 w
  · rw [t3, o3]; exact run_part_plain (P := Try.prog) w (e := 9) (by kernel_rfl) (xs := a.cells.toArray) (off := 65) (v := .string a.wy) (mv_get65 ha.1 ha.2)
  · rw [t3, o3]; exact run_part_plain (P := Try.prog) w (e := 9) (by kernel_rfl) (xs := b.cells.toArray) (off := 65) (v := .string b.wy) (mv_get65 hb.1 hb.2)
  · rw [t3]; exact run_equalIn_string w 9998 9 _ _ Try.underlying9
theorem td_eq (a b : Td) (ha : a.id.length = 32) (hb : b.id.length = 32) (w : World) :
    (Op.equalIn 10000 84 (.agg a.cells.toArray) (.agg b.cells.toArray)).run Try.prog w = .ok (tdEq a b) w := by
  obtain ⟨f0, f1, hf, ⟨n0, n1⟩, ⟨t0, t1⟩, ⟨o0, o1⟩⟩ := tdFields
  have hu : Try.prog.underlying 84 = some (.struct (Try.prog.fieldsOf 84)) := by
    unfold Program.fieldsOf
    rw [Try.underlying84]
  rw [run_equalIn_struct w 9999 84 _ _ hu (by kernel_rfl), hf]
  have d1 : ∀ m : Td, m.id.length = 32 → List.take 32 (List.drop 1 m.cells) = bv m.id := fun m h => by
    rw [show List.drop 1 m.cells = bv m.id from rfl, List.take_of_length_le (by rw [bv_len]; omega)]
  refine fieldsEq (.cons (.int .i64 a.dd) (.int .i64 b.dd) n0 ?_ ?_ ?_ (.cons (.agg (bv a.id).toArray) (.agg (bv b.id).toArray) n1 ?_ ?_ ?_ .nil))
  · rw [t0, o0]; exact run_part_plain (P := Try.prog) w (e := 3) (by kernel_rfl) (xs := a.cells.toArray) (off := 0) (v := .int .i64 a.dd) rfl
  · rw [t0, o0]; exact run_part_plain (P := Try.prog) w (e := 3) (by kernel_rfl) (xs := b.cells.toArray) (off := 0) (v := .int .i64 b.dd) rfl
  · rw [t0]; exact run_equalIn_int w 9998 3 .i64 .i64 a.dd b.dd Try.underlying3
  · rw [t1, o1]; exact part_ids (d1 a ha) w
  · rw [t1, o1]; exact part_ids (d1 b hb) w
  · rw [t1]; exact ids_eq9998 _ _ ha hb w
/-- are two lists the same, item by item? -/
def eqL {α : Type} (f : α → α → Bool) : List α → List α → Bool
  | [], [] => true
  | a :: l, b :: m => f a b && eqL f l m
  | _, _ => false
theorem eqL_len {α : Type} {f : α → α → Bool} : ∀ {l m : List α}, l.length ≠ m.length → eqL f l m = false
  | [], [], h => absurd rfl h
  | [], _ :: _, _ => rfl
  | _ :: _, [], _ => rfl
  | a :: l, b :: m, h => by
    simp only [eqL, eqL_len (f := f) (l := l) (m := m) (fun e => h (by simp [e])), Bool.and_false]
theorem eqL_drop {α : Type} [Inhabited α] (f : α → α → Bool) (l m : List α) (k : Nat) (hl : k < l.length) (hm : k < m.length) : eqL f (l.drop k) (m.drop k) = (f (l.getD k default) (m.getD k default) && eqL f (l.drop (k + 1)) (m.drop (k + 1))) := by
  rw [drop_consI l k hl, drop_consI m k hm]
  rfl
end Go.Proofs.Ytmcmapgllaopmaa.Cd
end

section
namespace Go.Proofs.Ytmcmapgllaopmaa.Cd
open Go.RowKit
set_option linter.unusedVariables false
set_option maxRecDepth 100000 in
set_option maxHeartbeats 1000000 in
theorem eqM_any (G : Nat) (A : Option Addr) (n C : Nat) (ms : List Mv) (A' : Option Addr) (n' C' : Nat) (ms' : List Mv) (w : World) (h : RdM G w A n C ms) (h' : RdM G w A' n' C' ms') (hG : G ≤ w.heap.size) (hn : n ≤ 1000000000) (hn' : n' ≤ 1000000000) :
    Calls Try.prog 77 #[.slice A n C, .slice A' n' C'] w fun e w' => e = .returned (.bool (eqL mvEq ms ms')) ∧ Below w.heap.size w w' := by
  have HR1 := Lib.hid h
  have HR2 := Lib.hid h'
  have hc1 := h.rd.cap
  have hm1 := h.rd.max
  have hc2 := h'.rd.cap
  have hm2 := h'.rd.max
  have HL1 : Hid (ms.length = n) := Lib.hid (by have := h.rd.len; simpa using this)
  have HL2 : Hid (ms'.length = n') := Lib.hid (by have := h'.rd.len; simpa using this)
  have HB0 := Lib.hid (Below.refl w.heap.size w)
  have HPost : Hid (∀ (b : Bool) (w' : World), b = eqL mvEq ms ms' → Below w.heap.size w w' → ((fun e w' => e = Ending.returned (.bool (eqL mvEq ms ms')) ∧ Below w.heap.size w w') (Ending.returned (.bool b)) w')) := Lib.hid (fun b w' e hb => by subst e; exact ⟨rfl, hb⟩)
  generalize hPD : (fun e w' => e = Ending.returned (.bool (eqL mvEq ms ms')) ∧ Below w.heap.size w w') = PO at *
  clear h h' hPD
  by_cases hl : n = n'
  rotate_left
  · have hd : ((n : Int) != (n' : Int)) = true := by simp; omega
    have HE : Hid (eqL mvEq ms ms' = false) := Lib.hid (eqL_len (by rw [HL1.out, HL2.out]; exact hl))
    clear hl
    go_enter Try.func77, Try.ntmps77
    go_wp2_with fail
    exact HPost.out false _ HE.out.symm HB0.out
  subst hl
  have hd : ((n : Int) != (n : Int)) = false := by simp
  go_enter Try.func77, Try.ntmps77
  go_wp2_with fail
  go_loopw [13] (fun s wr => ∃ k : Nat, s = .int .i64 k ∧ k ≤ n ∧ Hid (eqL mvEq (ms.drop k) (ms'.drop k) = eqL mvEq ms ms') ∧ Hid (Below w.heap.size w wr)) (fun s _ => n - (intOf s).toNat)
  case atStart => exact ⟨0, rfl, Nat.zero_le _, Lib.hid rfl, HB0⟩
  case round =>
    clear HB0
    obtain ⟨k, rfl, hk, HF, HB⟩ := hrel
    by_cases hlt : k < n
    · obtain ⟨g, o, hA, hg, hcc⟩ := (HR1.out.below HB.out hG).rd.cell (by omega)
      obtain ⟨g2, o2, hA', hg2, hcc2⟩ := (HR2.out.below HB.out hG).rd.cell (by omega)
      obtain ⟨t, ht⟩ : ∃ t, t = ms.getD k default := ⟨_, rfl⟩
      obtain ⟨t2, ht2⟩ : ∃ t2, t2 = ms'.getD k default := ⟨_, rfl⟩
      have hx1 := hcc k hlt
      rw [map_getD _ (by rw [HL1.out]; exact hlt), ← ht] at hx1
      have hx2 := hcc2 k hlt
      rw [map_getD _ (by rw [HL2.out]; exact hlt), ← ht2] at hx2
      have hok1 := HR1.out.ok t (by rw [ht]; exact getD_memI (by rw [HL1.out]; exact hlt))
      have hok2 := HR2.out.ok t2 (by rw [ht2]; exact getD_memI (by rw [HL2.out]; exact hlt))
      have hst := eqL_drop mvEq ms ms' k (by rw [HL1.out]; exact hlt) (by rw [HL2.out]; exact hlt)
      rw [HF.out, ← ht, ← ht2] at hst
      have HSt := Lib.hid hst
      have hS1 : Hid ((Try.prog.info? 126).map (·.size) = some t.cells.length) := Lib.hid (by rw [Mv.len hok1.1 hok1.2.1]; exact infoMv)
      have hS2 : Hid ((Try.prog.info? 126).map (·.size) = some t2.cells.length) := Lib.hid (by rw [Mv.len hok2.1 hok2.2.1]; exact infoMv)
      have hself := fun W => mv_eq t t2 ⟨hok1.1, hok1.2.1⟩ ⟨hok2.1, hok2.2.1⟩ W
      subst hA hA'
      have HX1 := Lib.hid hx1
      have HX2 := Lib.hid hx2
      have hk0 : (0 : Int) ≤ (k : Int) := by omega
      have hk1 : (k : Int) < (n : Int) := by omega
      have hkn : k < n := hlt
      have HBd := Lib.hid HB.out.drew
      clear hx1 hx2 hcc hcc2 hok1 hok2 HF HB hg hg2 hst ht ht2
      generalize mvEq t t2 = b at *
      generalize t.cells = EL at *
      generalize t2.cells = ER at *
      cases b
      · rw [Bool.false_and] at HSt
        go_wp2_with fail
        refine wp_region_noPanic ?_
        refine wp_region_held_drew (S := (fun wS => wS.rangeAt g (o + k * 66) EL ∧ wS.rangeAt g2 (o2 + k * 66) ER)) (by kernel_rfl) ?_ (fun hHeld => ?_)
        · ((try dsimp only); exact ⟨HX1.out, HX2.out⟩)
        refine wpAnyH_take (i := 0) (oi := { dst := some 16, op := Op.move (Operand.tmp 0), type := 62, pos := "slices.go:25", after := #[], guard := none }) (v := ?_) rfl (by kernel_rfl) (by kernel_rfl) (by kernel_rfl) (fun _ _ _ h => h) (Or.inl ⟨by rfl, ?_⟩) (by assumption) ?_
        rotate_left 1
        · ((intro w hSw; (try dsimp only at hSw); go_simp) <;> with_reducible rfl)
        (try simp only [Act.put, List.setIfInBounds_toArray, List.set_cons_zero, List.set_cons_succ])
        refine wpAnyH_take (i := 1) (oi := { dst := some 17, op := Op.move (Operand.tmp 5), type := 3, pos := "slices.go:25", after := #[], guard := none }) (v := ?_) rfl (by kernel_rfl) (by kernel_rfl) (by kernel_rfl) (fun _ _ _ h => h) (Or.inl ⟨by rfl, ?_⟩) (by assumption) ?_
        rotate_left 1
        · ((intro w hSw; (try dsimp only at hSw); go_simp) <;> with_reducible rfl)
        (try simp only [Act.put, List.setIfInBounds_toArray, List.set_cons_zero, List.set_cons_succ])
        refine wpAnyH_take (i := 2) (oi := { dst := some 18, op := Op.indexAddr 62 (Operand.tmp 16) (Operand.tmp 17), type := 0, pos := "slices.go:25", after := #[{ on := 0, ground := Ground.data }, { on := 1, ground := Ground.data }], guard := none }) (v := ?_) rfl (by kernel_rfl) (by kernel_rfl) (by kernel_rfl) (fun _ _ _ h => h) (Or.inl ⟨by rfl, ?_⟩) (by assumption) ?_
        rotate_left 1
        · ((intro w hSw; (try dsimp only at hSw); go_simp) <;> with_reducible rfl)
        (try simp only [Act.put, List.setIfInBounds_toArray, List.set_cons_zero, List.set_cons_succ])
        refine' wpAnyH_take (i := 3) (oi := { dst := some 19, op := Op.load 126 (Operand.tmp 18), type := 126, pos := "slices.go:25", after := #[{ on := 2, ground := Ground.data }], guard := none }) (v := _) rfl (by kernel_rfl) (by kernel_rfl) (by kernel_rfl) (fun _ _ _ h => h) (yieldsIf_load_mid (by rfl) _ _ rfl _ _ rfl EL _ (fun w hSw => hSw.1) Try.underlying126 rfl hS1.out) (by assumption) ?_
        (try simp only [Act.put, List.setIfInBounds_toArray, List.set_cons_zero, List.set_cons_succ])
        refine wpAnyH_take (i := 4) (oi := { dst := some 20, op := Op.move (Operand.tmp 1), type := 62, pos := "slices.go:25", after := #[], guard := none }) (v := ?_) rfl (by kernel_rfl) (by kernel_rfl) (by kernel_rfl) (fun _ _ _ h => h) (Or.inl ⟨by rfl, ?_⟩) (by assumption) ?_
        rotate_left 1
        · ((intro w hSw; (try dsimp only at hSw); go_simp) <;> with_reducible rfl)
        (try simp only [Act.put, List.setIfInBounds_toArray, List.set_cons_zero, List.set_cons_succ])
        refine wpAnyH_take (i := 5) (oi := { dst := some 21, op := Op.move (Operand.tmp 5), type := 3, pos := "slices.go:25", after := #[], guard := none }) (v := ?_) rfl (by kernel_rfl) (by kernel_rfl) (by kernel_rfl) (fun _ _ _ h => h) (Or.inl ⟨by rfl, ?_⟩) (by assumption) ?_
        rotate_left 1
        · ((intro w hSw; (try dsimp only at hSw); go_simp) <;> with_reducible rfl)
        (try simp only [Act.put, List.setIfInBounds_toArray, List.set_cons_zero, List.set_cons_succ])
        refine wpAnyH_take (i := 6) (oi := { dst := some 22, op := Op.indexAddr 62 (Operand.tmp 20) (Operand.tmp 21), type := 0, pos := "slices.go:25", after := #[{ on := 4, ground := Ground.data }, { on := 5, ground := Ground.data }], guard := none }) (v := ?_) rfl (by kernel_rfl) (by kernel_rfl) (by kernel_rfl) (fun _ _ _ h => h) (Or.inl ⟨by rfl, ?_⟩) (by assumption) ?_
        rotate_left 1
        · ((intro w hSw; (try dsimp only at hSw); go_simp) <;> with_reducible rfl)
        (try simp only [Act.put, List.setIfInBounds_toArray, List.set_cons_zero, List.set_cons_succ])
        refine' wpAnyH_take (i := 7) (oi := { dst := some 23, op := Op.load 126 (Operand.tmp 22), type := 126, pos := "slices.go:25", after := #[{ on := 6, ground := Ground.data }], guard := none }) (v := _) rfl (by kernel_rfl) (by kernel_rfl) (by kernel_rfl) (fun _ _ _ h => h) (yieldsIf_load_mid (by rfl) _ _ rfl _ _ rfl ER _ (fun w hSw => hSw.2) Try.underlying126 rfl hS2.out) (by assumption) ?_
        (try simp only [Act.put, List.setIfInBounds_toArray, List.set_cons_zero, List.set_cons_succ])
        refine wpAnyH_take (i := 8) (oi := { dst := some 24, op := Op.binOp BinOp.neq 126 (Operand.tmp 19) (Operand.tmp 23) 126, type := 4, pos := "slices.go:25", after := #[{ on := 3, ground := Ground.data }, { on := 7, ground := Ground.data }], guard := none }) (v := ?_) rfl (by kernel_rfl) (by kernel_rfl) (by kernel_rfl) (fun _ _ _ h => h) (Or.inl ⟨by rfl, ?_⟩) (by assumption) ?_
        rotate_left 1
        · ((intro w hSw; (try dsimp only at hSw); go_simp) <;> with_reducible rfl)
        (try simp only [Act.put, List.setIfInBounds_toArray, List.set_cons_zero, List.set_cons_succ])
        refine wpAnyH_done (by kernel_rfl) ?_ _
        refine NoPanic.normal ?_
        skip
        go_wp2_with fail
        exact HPost.out false _ HSt.out.symm HBd.out
      · rw [Bool.true_and] at HSt
        have HSt2 := Lib.hid HSt.out.symm
        go_wp2_with fail
        refine wp_region_noPanic ?_
        refine wp_region_held_drew (S := (fun wS => wS.rangeAt g (o + k * 66) EL ∧ wS.rangeAt g2 (o2 + k * 66) ER)) (by kernel_rfl) ?_ (fun hHeld => ?_)
        · ((try dsimp only); exact ⟨HX1.out, HX2.out⟩)
        refine wpAnyH_take (i := 0) (oi := { dst := some 16, op := Op.move (Operand.tmp 0), type := 62, pos := "slices.go:25", after := #[], guard := none }) (v := ?_) rfl (by kernel_rfl) (by kernel_rfl) (by kernel_rfl) (fun _ _ _ h => h) (Or.inl ⟨by rfl, ?_⟩) (by assumption) ?_
        rotate_left 1
        · ((intro w hSw; (try dsimp only at hSw); go_simp) <;> with_reducible rfl)
        (try simp only [Act.put, List.setIfInBounds_toArray, List.set_cons_zero, List.set_cons_succ])
        refine wpAnyH_take (i := 1) (oi := { dst := some 17, op := Op.move (Operand.tmp 5), type := 3, pos := "slices.go:25", after := #[], guard := none }) (v := ?_) rfl (by kernel_rfl) (by kernel_rfl) (by kernel_rfl) (fun _ _ _ h => h) (Or.inl ⟨by rfl, ?_⟩) (by assumption) ?_
        rotate_left 1
        · ((intro w hSw; (try dsimp only at hSw); go_simp) <;> with_reducible rfl)
        (try simp only [Act.put, List.setIfInBounds_toArray, List.set_cons_zero, List.set_cons_succ])
        refine wpAnyH_take (i := 2) (oi := { dst := some 18, op := Op.indexAddr 62 (Operand.tmp 16) (Operand.tmp 17), type := 0, pos := "slices.go:25", after := #[{ on := 0, ground := Ground.data }, { on := 1, ground := Ground.data }], guard := none }) (v := ?_) rfl (by kernel_rfl) (by kernel_rfl) (by kernel_rfl) (fun _ _ _ h => h) (Or.inl ⟨by rfl, ?_⟩) (by assumption) ?_
        rotate_left 1
        · ((intro w hSw; (try dsimp only at hSw); go_simp) <;> with_reducible rfl)
        (try simp only [Act.put, List.setIfInBounds_toArray, List.set_cons_zero, List.set_cons_succ])
        refine' wpAnyH_take (i := 3) (oi := { dst := some 19, op := Op.load 126 (Operand.tmp 18), type := 126, pos := "slices.go:25", after := #[{ on := 2, ground := Ground.data }], guard := none }) (v := _) rfl (by kernel_rfl) (by kernel_rfl) (by kernel_rfl) (fun _ _ _ h => h) (yieldsIf_load_mid (by rfl) _ _ rfl _ _ rfl EL _ (fun w hSw => hSw.1) Try.underlying126 rfl hS1.out) (by assumption) ?_
        (try simp only [Act.put, List.setIfInBounds_toArray, List.set_cons_zero, List.set_cons_succ])
        refine wpAnyH_take (i := 4) (oi := { dst := some 20, op := Op.move (Operand.tmp 1), type := 62, pos := "slices.go:25", after := #[], guard := none }) (v := ?_) rfl (by kernel_rfl) (by kernel_rfl) (by kernel_rfl) (fun _ _ _ h => h) (Or.inl ⟨by rfl, ?_⟩) (by assumption) ?_
        rotate_left 1
        · ((intro w hSw; (try dsimp only at hSw); go_simp) <;> with_reducible rfl)
        (try simp only [Act.put, List.setIfInBounds_toArray, List.set_cons_zero, List.set_cons_succ])
        refine wpAnyH_take (i := 5) (oi := { dst := some 21, op := Op.move (Operand.tmp 5), type := 3, pos := "slices.go:25", after := #[], guard := none }) (v := ?_) rfl (by kernel_rfl) (by kernel_rfl) (by kernel_rfl) (fun _ _ _ h => h) (Or.inl ⟨by rfl, ?_⟩) (by assumption) ?_
        rotate_left 1
        · ((intro w hSw; (try dsimp only at hSw); go_simp) <;> with_reducible rfl)
        (try simp only [Act.put, List.setIfInBounds_toArray, List.set_cons_zero, List.set_cons_succ])
        refine wpAnyH_take (i := 6) (oi := { dst := some 22, op := Op.indexAddr 62 (Operand.tmp 20) (Operand.tmp 21), type := 0, pos := "slices.go:25", after := #[{ on := 4, ground := Ground.data }, { on := 5, ground := Ground.data }], guard := none }) (v := ?_) rfl (by kernel_rfl) (by kernel_rfl) (by kernel_rfl) (fun _ _ _ h => h) (Or.inl ⟨by rfl, ?_⟩) (by assumption) ?_
        rotate_left 1
        · ((intro w hSw; (try dsimp only at hSw); go_simp) <;> with_reducible rfl)
        (try simp only [Act.put, List.setIfInBounds_toArray, List.set_cons_zero, List.set_cons_succ])
        refine' wpAnyH_take (i := 7) (oi := { dst := some 23, op := Op.load 126 (Operand.tmp 22), type := 126, pos := "slices.go:25", after := #[{ on := 6, ground := Ground.data }], guard := none }) (v := _) rfl (by kernel_rfl) (by kernel_rfl) (by kernel_rfl) (fun _ _ _ h => h) (yieldsIf_load_mid (by rfl) _ _ rfl _ _ rfl ER _ (fun w hSw => hSw.2) Try.underlying126 rfl hS2.out) (by assumption) ?_
        (try simp only [Act.put, List.setIfInBounds_toArray, List.set_cons_zero, List.set_cons_succ])
        refine wpAnyH_take (i := 8) (oi := { dst := some 24, op := Op.binOp BinOp.neq 126 (Operand.tmp 19) (Operand.tmp 23) 126, type := 4, pos := "slices.go:25", after := #[{ on := 3, ground := Ground.data }, { on := 7, ground := Ground.data }], guard := none }) (v := ?_) rfl (by kernel_rfl) (by kernel_rfl) (by kernel_rfl) (fun _ _ _ h => h) (Or.inl ⟨by rfl, ?_⟩) (by assumption) ?_
        rotate_left 1
        · ((intro w hSw; (try dsimp only at hSw); go_simp) <;> with_reducible rfl)
        (try simp only [Act.put, List.setIfInBounds_toArray, List.set_cons_zero, List.set_cons_succ])
        refine wpAnyH_done (by kernel_rfl) ?_ _
        refine NoPanic.normal ?_
        skip
        go_wp2_with fail
        go_roundw
        case rel => exact ⟨k + 1, by go_num, by omega, HSt2, HBd⟩
        case measure => simp [intOf]; omega
    · have hd2 : decide ((k : Int) < (n : Int)) = false := by simp; omega
      have HE : Hid (eqL mvEq ms ms' = true) := Lib.hid (by
        have h := HF.out
        rw [List.drop_of_length_le (by rw [HL1.out]; omega), List.drop_of_length_le (by rw [HL2.out]; omega)] at h
        exact h.symm)
      clear HF
      go_wp2_with fail
      exact HPost.out true _ HE.out.symm HB.out
end Go.Proofs.Ytmcmapgllaopmaa.Cd
end

section
namespace Go.Proofs.Ytmcmapgllaopmaa.Cd
open Go.RowKit
set_option linter.unusedVariables false
set_option maxRecDepth 100000 in
set_option maxHeartbeats 1000000 in
theorem eqT_any (G : Nat) (A : Option Addr) (n C : Nat) (ms : List Td) (A' : Option Addr) (n' C' : Nat) (ms' : List Td) (w : World) (h : RdT G w A n C ms) (h' : RdT G w A' n' C' ms') (hG : G ≤ w.heap.size) (hn : n ≤ 1000000000) (hn' : n' ≤ 1000000000) :
    Calls Try.prog 99 #[.slice A n C, .slice A' n' C'] w fun e w' => e = .returned (.bool (eqL tdEq ms ms')) ∧ Below w.heap.size w w' := by
  have HR1 := Lib.hid h
  have HR2 := Lib.hid h'
  have hc1 := h.rd.cap
  have hm1 := h.rd.max
  have hc2 := h'.rd.cap
  have hm2 := h'.rd.max
  have HL1 : Hid (ms.length = n) := Lib.hid (by have := h.rd.len; simpa using this)
  have HL2 : Hid (ms'.length = n') := Lib.hid (by have := h'.rd.len; simpa using this)
  have HB0 := Lib.hid (Below.refl w.heap.size w)
  have HPost : Hid (∀ (b : Bool) (w' : World), b = eqL tdEq ms ms' → Below w.heap.size w w' → ((fun e w' => e = Ending.returned (.bool (eqL tdEq ms ms')) ∧ Below w.heap.size w w') (Ending.returned (.bool b)) w')) := Lib.hid (fun b w' e hb => by subst e; exact ⟨rfl, hb⟩)
  generalize hPD : (fun e w' => e = Ending.returned (.bool (eqL tdEq ms ms')) ∧ Below w.heap.size w w') = PO at *
  clear h h' hPD
  by_cases hl : n = n'
  rotate_left
  · have hd : ((n : Int) != (n' : Int)) = true := by simp; omega
    have HE : Hid (eqL tdEq ms ms' = false) := Lib.hid (eqL_len (by rw [HL1.out, HL2.out]; exact hl))
    clear hl
    go_enter Try.func99, Try.ntmps99
    go_wp2_with fail
    exact HPost.out false _ HE.out.symm HB0.out
  subst hl
  have hd : ((n : Int) != (n : Int)) = false := by simp
  go_enter Try.func99, Try.ntmps99
  go_wp2_with fail
  go_loopw [13] (fun s wr => ∃ k : Nat, s = .int .i64 k ∧ k ≤ n ∧ Hid (eqL tdEq (ms.drop k) (ms'.drop k) = eqL tdEq ms ms') ∧ Hid (Below w.heap.size w wr)) (fun s _ => n - (intOf s).toNat)
  case atStart => exact ⟨0, rfl, Nat.zero_le _, Lib.hid rfl, HB0⟩
  case round =>
    clear HB0
    obtain ⟨k, rfl, hk, HF, HB⟩ := hrel
    by_cases hlt : k < n
    · obtain ⟨g, o, hA, hg, hcc⟩ := (HR1.out.below HB.out hG).rd.cell (by omega)
      obtain ⟨g2, o2, hA', hg2, hcc2⟩ := (HR2.out.below HB.out hG).rd.cell (by omega)
      obtain ⟨t, ht⟩ : ∃ t, t = ms.getD k default := ⟨_, rfl⟩
      obtain ⟨t2, ht2⟩ : ∃ t2, t2 = ms'.getD k default := ⟨_, rfl⟩
      have hx1 := hcc k hlt
      rw [map_getD _ (by rw [HL1.out]; exact hlt), ← ht] at hx1
      have hx2 := hcc2 k hlt
      rw [map_getD _ (by rw [HL2.out]; exact hlt), ← ht2] at hx2
      have hok1 := HR1.out.ok t (by rw [ht]; exact getD_memI (by rw [HL1.out]; exact hlt))
      have hok2 := HR2.out.ok t2 (by rw [ht2]; exact getD_memI (by rw [HL2.out]; exact hlt))
      have hst := eqL_drop tdEq ms ms' k (by rw [HL1.out]; exact hlt) (by rw [HL2.out]; exact hlt)
      rw [HF.out, ← ht, ← ht2] at hst
      have HSt := Lib.hid hst
      have hS1 : Hid ((Try.prog.info? 84).map (·.size) = some t.cells.length) := Lib.hid (by rw [Td.len hok1]; exact infoTd)
      have hS2 : Hid ((Try.prog.info? 84).map (·.size) = some t2.cells.length) := Lib.hid (by rw [Td.len hok2]; exact infoTd)
      have hself := fun W => td_eq t t2 hok1 hok2 W
      subst hA hA'
      have HX1 := Lib.hid hx1
      have HX2 := Lib.hid hx2
      have hk0 : (0 : Int) ≤ (k : Int) := by omega
      have hk1 : (k : Int) < (n : Int) := by omega
      have hkn : k < n := hlt
      have HBd := Lib.hid HB.out.drew
      clear hx1 hx2 hcc hcc2 hok1 hok2 HF HB hg hg2 hst ht ht2
      generalize tdEq t t2 = b at *
      generalize t.cells = EL at *
      generalize t2.cells = ER at *
      cases b
      · rw [Bool.false_and] at HSt
        go_wp2_with fail
        refine wp_region_noPanic ?_
        refine wp_region_held_drew (S := (fun wS => wS.rangeAt g (o + k * 33) EL ∧ wS.rangeAt g2 (o2 + k * 33) ER)) (by kernel_rfl) ?_ (fun hHeld => ?_)
        · ((try dsimp only); exact ⟨HX1.out, HX2.out⟩)
        refine wpAnyH_take (i := 0) (oi := { dst := some 16, op := Op.move (Operand.tmp 0), type := 63, pos := "slices.go:25", after := #[], guard := none }) (v := ?_) rfl (by kernel_rfl) (by kernel_rfl) (by kernel_rfl) (fun _ _ _ h => h) (Or.inl ⟨by rfl, ?_⟩) (by assumption) ?_
        rotate_left 1
        · ((intro w hSw; (try dsimp only at hSw); go_simp) <;> with_reducible rfl)
        (try simp only [Act.put, List.setIfInBounds_toArray, List.set_cons_zero, List.set_cons_succ])
        refine wpAnyH_take (i := 1) (oi := { dst := some 17, op := Op.move (Operand.tmp 5), type := 3, pos := "slices.go:25", after := #[], guard := none }) (v := ?_) rfl (by kernel_rfl) (by kernel_rfl) (by kernel_rfl) (fun _ _ _ h => h) (Or.inl ⟨by rfl, ?_⟩) (by assumption) ?_
        rotate_left 1
        · ((intro w hSw; (try dsimp only at hSw); go_simp) <;> with_reducible rfl)
        (try simp only [Act.put, List.setIfInBounds_toArray, List.set_cons_zero, List.set_cons_succ])
        refine wpAnyH_take (i := 2) (oi := { dst := some 18, op := Op.indexAddr 63 (Operand.tmp 16) (Operand.tmp 17), type := 0, pos := "slices.go:25", after := #[{ on := 0, ground := Ground.data }, { on := 1, ground := Ground.data }], guard := none }) (v := ?_) rfl (by kernel_rfl) (by kernel_rfl) (by kernel_rfl) (fun _ _ _ h => h) (Or.inl ⟨by rfl, ?_⟩) (by assumption) ?_
        rotate_left 1
        · ((intro w hSw; (try dsimp only at hSw); go_simp) <;> with_reducible rfl)
        (try simp only [Act.put, List.setIfInBounds_toArray, List.set_cons_zero, List.set_cons_succ])
        refine' wpAnyH_take (i := 3) (oi := { dst := some 19, op := Op.load 84 (Operand.tmp 18), type := 84, pos := "slices.go:25", after := #[{ on := 2, ground := Ground.data }], guard := none }) (v := _) rfl (by kernel_rfl) (by kernel_rfl) (by kernel_rfl) (fun _ _ _ h => h) (yieldsIf_load_mid (by rfl) _ _ rfl _ _ rfl EL _ (fun w hSw => hSw.1) Try.underlying84 rfl hS1.out) (by assumption) ?_
        (try simp only [Act.put, List.setIfInBounds_toArray, List.set_cons_zero, List.set_cons_succ])
        refine wpAnyH_take (i := 4) (oi := { dst := some 20, op := Op.move (Operand.tmp 1), type := 63, pos := "slices.go:25", after := #[], guard := none }) (v := ?_) rfl (by kernel_rfl) (by kernel_rfl) (by kernel_rfl) (fun _ _ _ h => h) (Or.inl ⟨by rfl, ?_⟩) (by assumption) ?_
        rotate_left 1
        · ((intro w hSw; (try dsimp only at hSw); go_simp) <;> with_reducible rfl)
        (try simp only [Act.put, List.setIfInBounds_toArray, List.set_cons_zero, List.set_cons_succ])
        refine wpAnyH_take (i := 5) (oi := { dst := some 21, op := Op.move (Operand.tmp 5), type := 3, pos := "slices.go:25", after := #[], guard := none }) (v := ?_) rfl (by kernel_rfl) (by kernel_rfl) (by kernel_rfl) (fun _ _ _ h => h) (Or.inl ⟨by rfl, ?_⟩) (by assumption) ?_
        rotate_left 1
        · ((intro w hSw; (try dsimp only at hSw); go_simp) <;> with_reducible rfl)
        (try simp only [Act.put, List.setIfInBounds_toArray, List.set_cons_zero, List.set_cons_succ])
        refine wpAnyH_take (i := 6) (oi := { dst := some 22, op := Op.indexAddr 63 (Operand.tmp 20) (Operand.tmp 21), type := 0, pos := "slices.go:25", after := #[{ on := 4, ground := Ground.data }, { on := 5, ground := Ground.data }], guard := none }) (v := ?_) rfl (by kernel_rfl) (by kernel_rfl) (by kernel_rfl) (fun _ _ _ h => h) (Or.inl ⟨by rfl, ?_⟩) (by assumption) ?_
        rotate_left 1
        · ((intro w hSw; (try dsimp only at hSw); go_simp) <;> with_reducible rfl)
        (try simp only [Act.put, List.setIfInBounds_toArray, List.set_cons_zero, List.set_cons_succ])
        refine' wpAnyH_take (i := 7) (oi := { dst := some 23, op := Op.load 84 (Operand.tmp 22), type := 84, pos := "slices.go:25", after := #[{ on := 6, ground := Ground.data }], guard := none }) (v := _) rfl (by kernel_rfl) (by kernel_rfl) (by kernel_rfl) (fun _ _ _ h => h) (yieldsIf_load_mid (by rfl) _ _ rfl _ _ rfl ER _ (fun w hSw => hSw.2) Try.underlying84 rfl hS2.out) (by assumption) ?_
        (try simp only [Act.put, List.setIfInBounds_toArray, List.set_cons_zero, List.set_cons_succ])
        refine wpAnyH_take (i := 8) (oi := { dst := some 24, op := Op.binOp BinOp.neq 84 (Operand.tmp 19) (Operand.tmp 23) 84, type := 4, pos := "slices.go:25", after := #[{ on := 3, ground := Ground.data }, { on := 7, ground := Ground.data }], guard := none }) (v := ?_) rfl (by kernel_rfl) (by kernel_rfl) (by kernel_rfl) (fun _ _ _ h => h) (Or.inl ⟨by rfl, ?_⟩) (by assumption) ?_
        rotate_left 1
        · ((intro w hSw; (try dsimp only at hSw); go_simp) <;> with_reducible rfl)
        (try simp only [Act.put, List.setIfInBounds_toArray, List.set_cons_zero, List.set_cons_succ])
        refine wpAnyH_done (by kernel_rfl) ?_ _
        refine NoPanic.normal ?_
        skip
        go_wp2_with fail
        exact HPost.out false _ HSt.out.symm HBd.out
      · rw [Bool.true_and] at HSt
        have HSt2 := Lib.hid HSt.out.symm
        go_wp2_with fail
        refine wp_region_noPanic ?_
        refine wp_region_held_drew (S := (fun wS => wS.rangeAt g (o + k * 33) EL ∧ wS.rangeAt g2 (o2 + k * 33) ER)) (by kernel_rfl) ?_ (fun hHeld => ?_)
        · ((try dsimp only); exact ⟨HX1.out, HX2.out⟩)
        refine wpAnyH_take (i := 0) (oi := { dst := some 16, op := Op.move (Operand.tmp 0), type := 63, pos := "slices.go:25", after := #[], guard := none }) (v := ?_) rfl (by kernel_rfl) (by kernel_rfl) (by kernel_rfl) (fun _ _ _ h => h) (Or.inl ⟨by rfl, ?_⟩) (by assumption) ?_
        rotate_left 1
        · ((intro w hSw; (try dsimp only at hSw); go_simp) <;> with_reducible rfl)
        (try simp only [Act.put, List.setIfInBounds_toArray, List.set_cons_zero, List.set_cons_succ])
        refine wpAnyH_take (i := 1) (oi := { dst := some 17, op := Op.move (Operand.tmp 5), type := 3, pos := "slices.go:25", after := #[], guard := none }) (v := ?_) rfl (by kernel_rfl) (by kernel_rfl) (by kernel_rfl) (fun _ _ _ h => h) (Or.inl ⟨by rfl, ?_⟩) (by assumption) ?_
        rotate_left 1
        · ((intro w hSw; (try dsimp only at hSw); go_simp) <;> with_reducible rfl)
        (try simp only [Act.put, List.setIfInBounds_toArray, List.set_cons_zero, List.set_cons_succ])
        refine wpAnyH_take (i := 2) (oi := { dst := some 18, op := Op.indexAddr 63 (Operand.tmp 16) (Operand.tmp 17), type := 0, pos := "slices.go:25", after := #[{ on := 0, ground := Ground.data }, { on := 1, ground := Ground.data }], guard := none }) (v := ?_) rfl (by kernel_rfl) (by kernel_rfl) (by kernel_rfl) (fun _ _ _ h => h) (Or.inl ⟨by rfl, ?_⟩) (by assumption) ?_
        rotate_left 1
        · ((intro w hSw; (try dsimp only at hSw); go_simp) <;> with_reducible rfl)
        (try simp only [Act.put, List.setIfInBounds_toArray, List.set_cons_zero, List.set_cons_succ])
        refine' wpAnyH_take (i := 3) (oi := { dst := some 19, op := Op.load 84 (Operand.tmp 18), type := 84, pos := "slices.go:25", after := #[{ on := 2, ground := Ground.data }], guard := none }) (v := _) rfl (by kernel_rfl) (by kernel_rfl) (by kernel_rfl) (fun _ _ _ h => h) (yieldsIf_load_mid (by rfl) _ _ rfl _ _ rfl EL _ (fun w hSw => hSw.1) Try.underlying84 rfl hS1.out) (by assumption) ?_
        (try simp only [Act.put, List.setIfInBounds_toArray, List.set_cons_zero, List.set_cons_succ])
        refine wpAnyH_take (i := 4) (oi := { dst := some 20, op := Op.move (Operand.tmp 1), type := 63, pos := "slices.go:25", after := #[], guard := none }) (v := ?_) rfl (by kernel_rfl) (by kernel_rfl) (by kernel_rfl) (fun _ _ _ h => h) (Or.inl ⟨by rfl, ?_⟩) (by assumption) ?_
        rotate_left 1
        · ((intro w hSw; (try dsimp only at hSw); go_simp) <;> with_reducible rfl)
        (try simp only [Act.put, List.setIfInBounds_toArray, List.set_cons_zero, List.set_cons_succ])
        refine wpAnyH_take (i := 5) (oi := { dst := some 21, op := Op.move (Operand.tmp 5), type := 3, pos := "slices.go:25", after := #[], guard := none }) (v := ?_) rfl (by kernel_rfl) (by kernel_rfl) (by kernel_rfl) (fun _ _ _ h => h) (Or.inl ⟨by rfl, ?_⟩) (by assumption) ?_
        rotate_left 1
        · ((intro w hSw; (try dsimp only at hSw); go_simp) <;> with_reducible rfl)
        (try simp only [Act.put, List.setIfInBounds_toArray, List.set_cons_zero, List.set_cons_succ])
        refine wpAnyH_take (i := 6) (oi := { dst := some 22, op := Op.indexAddr 63 (Operand.tmp 20) (Operand.tmp 21), type := 0, pos := "slices.go:25", after := #[{ on := 4, ground := Ground.data }, { on := 5, ground := Ground.data }], guard := none }) (v := ?_) rfl (by kernel_rfl) (by kernel_rfl) (by kernel_rfl) (fun _ _ _ h => h) (Or.inl ⟨by rfl, ?_⟩) (by assumption) ?_
        rotate_left 1
        · ((intro w hSw; (try dsimp only at hSw); go_simp) <;> with_reducible rfl)
        (try simp only [Act.put, List.setIfInBounds_toArray, List.set_cons_zero, List.set_cons_succ])
        refine' wpAnyH_take (i := 7) (oi := { dst := some 23, op := Op.load 84 (Operand.tmp 22), type := 84, pos := "slices.go:25", after := #[{ on := 6, ground := Ground.data }], guard := none }) (v := _) rfl (by kernel_rfl) (by kernel_rfl) (by kernel_rfl) (fun _ _ _ h => h) (yieldsIf_load_mid (by rfl) _ _ rfl _ _ rfl ER _ (fun w hSw => hSw.2) Try.underlying84 rfl hS2.out) (by assumption) ?_
        (try simp only [Act.put, List.setIfInBounds_toArray, List.set_cons_zero, List.set_cons_succ])
        refine wpAnyH_take (i := 8) (oi := { dst := some 24, op := Op.binOp BinOp.neq 84 (Operand.tmp 19) (Operand.tmp 23) 84, type := 4, pos := "slices.go:25", after := #[{ on := 3, ground := Ground.data }, { on := 7, ground := Ground.data }], guard := none }) (v := ?_) rfl (by kernel_rfl) (by kernel_rfl) (by kernel_rfl) (fun _ _ _ h => h) (Or.inl ⟨by rfl, ?_⟩) (by assumption) ?_
        rotate_left 1
        · ((intro w hSw; (try dsimp only at hSw); go_simp) <;> with_reducible rfl)
        (try simp only [Act.put, List.setIfInBounds_toArray, List.set_cons_zero, List.set_cons_succ])
        refine wpAnyH_done (by kernel_rfl) ?_ _
        refine NoPanic.normal ?_
        skip
        go_wp2_with fail
        go_roundw
        case rel => exact ⟨k + 1, by go_num, by omega, HSt2, HBd⟩
        case measure => simp [intOf]; omega
    · have hd2 : decide ((k : Int) < (n : Int)) = false := by simp; omega
      have HE : Hid (eqL tdEq ms ms' = true) := Lib.hid (by
        have h := HF.out
        rw [List.drop_of_length_le (by rw [HL1.out]; omega), List.drop_of_length_le (by rw [HL2.out]; omega)] at h
        exact h.symm)
      clear HF
      go_wp2_with fail
      exact HPost.out true _ HE.out.symm HB.out
end Go.Proofs.Ytmcmapgllaopmaa.Cd
end

section
namespace Go.Proofs.Ytmcmapgllaopmaa.Cd
open Go.RowKit
set_option linter.unusedVariables false
/-- are two sequences the same in everything? -/
def sqEq (a b : SqD) : Bool := (a.k == b.k) && (sEq a.br b.br && (decide (a.og = b.og) && (decide (a.cu = b.cu) && (eqL tdEq a.ts b.ts && ((a.dn == b.dn) && ((a.md == b.md) && (a.st == b.st)))))))
set_option maxRecDepth 100000 in
set_option maxHeartbeats 4000000 in
theorem sameSeq_any (G : Nat) (k : Int) (br : ByteArray) (og cu : List Int) (A : Option Addr) (n C : Nat) (ts : List Td) (dn md : Int) (st : Bool) (k' : Int) (br' : ByteArray) (og' cu' : List Int) (A' : Option Addr) (n' C' : Nat) (ts' : List Td) (dn' md' : Int) (st' : Bool) (w : World)
    (ho : og.length = 32) (hc : cu.length = 32) (hT : RdT G w A n C ts) (hn : n ≤ 1000000000) (ho' : og'.length = 32) (hc' : cu'.length = 32) (hT' : RdT G w A' n' C' ts') (hn' : n' ≤ 1000000000) (hG : G ≤ w.heap.size) :
    Calls Try.prog 78 #[.agg (sqV k br og cu (.slice A n C) dn md st).toArray, .agg (sqV k' br' og' cu' (.slice A' n' C') dn' md' st').toArray] w fun e w' => e = .returned (.bool (sqEq ⟨k, br, og, cu, ts, dn, md, st⟩ ⟨k', br', og', cu', ts', dn', md', st'⟩)) ∧ Below w.heap.size w w' := by
  have hql := sqV_len (k := k) (br := br) (td := Value.slice A n C) (dn := dn) (md := md) (st := st) ho hc
  have hql' := sqV_len (k := k') (br := br') (td := Value.slice A' n' C') (dn := dn') (md := md') (st := st') ho' hc'
  have hb1 := (Below.refl w.heap.size w).alloc (Nat.le_refl _) (.cells (sqV k br og cu (.slice A n C) dn md st).toArray 65)
  have hr1 := row_newL w (sqV k br og cu (.slice A n C) dn md st) 65 70 hql
  have hX1 : (w.alloc (.cells (sqV k br og cu (.slice A n C) dn md st).toArray 65)).heap.size = w.heap.size + 1 := by show (w.heap.push _).size = _; simp
  have hb2 := hb1.alloc (al_le w _) (.cells (sqV k' br' og' cu' (.slice A' n' C') dn' md' st').toArray 65)
  have hr1b := World.rowIs.alloc hr1 (.cells (sqV k' br' og' cu' (.slice A' n' C') dn' md' st').toArray 65)
  have hr2 := row_newL (w.alloc (.cells (sqV k br og cu (.slice A n C) dn md st).toArray 65)) (sqV k' br' og' cu' (.slice A' n' C') dn' md' st') 65 70 hql'
  rw [hX1] at hr2
  have HS := Lib.hid (sq_at ho hc (row_range hr1b hql))
  have HS' := Lib.hid (sq_at ho' hc' (row_range hr2 hql'))
  have HB := Lib.hid hb2
  have HT := Lib.hid (hT.below hb2 hG)
  have HT' := Lib.hid (hT'.below hb2 hG)
  have hXl := hr1b.lt
  have hXl' := hr2.lt
  have hid1 := fun W => ids_eq og og' ho ho' W
  have hid2 := fun W => ids_eq cu cu' hc hc' W
  have HZo : Hid ((Try.prog.info? 37).map (·.size) = some (bv og).length) := Lib.hid (by rw [bv_len, ho]; exact infoId)
  have HZo' : Hid ((Try.prog.info? 37).map (·.size) = some (bv og').length) := Lib.hid (by rw [bv_len, ho']; exact infoId)
  have HZc : Hid ((Try.prog.info? 37).map (·.size) = some (bv cu).length) := Lib.hid (by rw [bv_len, hc]; exact infoId)
  have HZc' : Hid ((Try.prog.info? 37).map (·.size) = some (bv cu').length) := Lib.hid (by rw [bv_len, hc']; exact infoId)
  have HQ : Hid (sqEq ⟨k, br, og, cu, ts, dn, md, st⟩ ⟨k', br', og', cu', ts', dn', md', st'⟩ = ((k == k') && ((br.toList == br'.toList) && (decide (og = og') && (decide (cu = cu') && (eqL tdEq ts ts' && ((dn == dn') && ((md == md') && (st == st'))))))))) := Lib.hid rfl
  have HPost : Hid (∀ (b : Bool) (w' : World), b = sqEq ⟨k, br, og, cu, ts, dn, md, st⟩ ⟨k', br', og', cu', ts', dn', md', st'⟩ → Below w.heap.size w w' → ((fun e w' => e = Ending.returned (.bool (sqEq ⟨k, br, og, cu, ts, dn, md, st⟩ ⟨k', br', og', cu', ts', dn', md', st'⟩)) ∧ Below w.heap.size w w') (Ending.returned (.bool b)) w')) := Lib.hid (fun b w' e hb => by subst e; exact ⟨rfl, hb⟩)
  generalize hPD : (fun e w' => e = Ending.returned (.bool (sqEq ⟨k, br, og, cu, ts, dn, md, st⟩ ⟨k', br', og', cu', ts', dn', md', st'⟩)) ∧ Below w.heap.size w w') = PO at *
  generalize sqEq ⟨k, br, og, cu, ts, dn, md, st⟩ ⟨k', br', og', cu', ts', dn', md', st'⟩ = SQ at *
  have HEt : Hid (∀ W : World, RdT G W A n C ts → RdT G W A' n' C' ts' → G ≤ W.heap.size → Calls Try.prog 99 #[.slice A n C, .slice A' n' C'] W fun e w' => e = .returned (.bool (eqL tdEq ts ts')) ∧ Below W.heap.size W w') := Lib.hid (fun W a b c => eqT_any G A n C ts A' n' C' ts' W a b c hn hn')
  generalize eqL tdEq ts ts' = b5 at *
  generalize sqV k br og cu (.slice A n C) dn md st = CM at *
  generalize sqV k' br' og' cu' (.slice A' n' C') dn' md' st' = CN at *
  generalize decide (og = og') = b3 at *
  generalize decide (cu = cu') = b4 at *
  clear hPD hT hT' hb1 hb2 hr1 hr1b hr2 hX1 ho hc ho' hc' hql hql'
  go_enter Try.func78, Try.ntmps78
  go_upto_region 1 with (fail)
  generalize (w.alloc (.cells CM.toArray 65)).alloc (.cells CN.toArray 65) = wA at *
  obtain ⟨X, hX⟩ : ∃ X, X = w.heap.size := ⟨_, rfl⟩
  obtain ⟨Y, hY⟩ : ∃ Y, Y = w.heap.size + 1 := ⟨_, rfl⟩
  rw [← hY] at HS' hXl' ⊢
  rw [← hX] at HS hXl ⊢
  clear hX hY
  have HOg := Lib.hid (show wA.rangeAt X 2 (bv og) from HS.out.og)
  have HOg' := Lib.hid (show wA.rangeAt Y 2 (bv og') from HS'.out.og)
  have HCu := Lib.hid (show wA.rangeAt X 34 (bv cu) from HS.out.cu)
  have HCu' := Lib.hid (show wA.rangeAt Y 34 (bv cu') from HS'.out.cu)
  have hk1 : wA.cell? ⟨X, 0, none⟩ = some (.int .i64 k) := HS.out.c0
  have hk2 : wA.cell? ⟨Y, 0, none⟩ = some (.int .i64 k') := HS'.out.c0
  have hb1 : wA.cell? ⟨X, 1, none⟩ = some (.string br) := HS.out.c1
  have hb2 : wA.cell? ⟨Y, 1, none⟩ = some (.string br') := HS'.out.c1
  have ht1 : wA.cell? ⟨X, 66, none⟩ = some (.slice A n C) := by have := HS.out.td; simpa using this
  have ht2 : wA.cell? ⟨Y, 66, none⟩ = some (.slice A' n' C') := by have := HS'.out.td; simpa using this
  have HD1 : Hid (wA.cell? ⟨X, 67, none⟩ = some (.int .i64 dn)) := Lib.hid (by have := HS.out.dn; simpa using this)
  have HD2 : Hid (wA.cell? ⟨Y, 67, none⟩ = some (.int .i64 dn')) := Lib.hid (by have := HS'.out.dn; simpa using this)
  have HM1 : Hid (wA.cell? ⟨X, 68, none⟩ = some (.int .i64 md)) := Lib.hid (by have := HS.out.md; simpa using this)
  have HM2 : Hid (wA.cell? ⟨Y, 68, none⟩ = some (.int .i64 md')) := Lib.hid (by have := HS'.out.md; simpa using this)
  have HW1 : Hid (wA.cell? ⟨X, 69, none⟩ = some (.bool st)) := Lib.hid (by have := HS.out.st; simpa using this)
  have HW2 : Hid (wA.cell? ⟨Y, 69, none⟩ = some (.bool st')) := Lib.hid (by have := HS'.out.st; simpa using this)
  have HCt := Lib.hid (HEt.out wA HT.out HT'.out (Nat.le_trans hG HB.out.size))
  have hsw : w.heap.size ≤ wA.heap.size := HB.out.size
  clear HS HS' HEt HT HT'
  generalize bv og = LO at *
  generalize bv og' = LP at *
  generalize bv cu = LC at *
  generalize bv cu' = LD at *
  obtain ⟨b1, h1⟩ : ∃ b, (k == k') = b := ⟨_, rfl⟩
  obtain ⟨b2, h2⟩ : ∃ b, (br.toList == br'.toList) = b := ⟨_, rfl⟩
  obtain ⟨b6, h6⟩ : ∃ b, (dn == dn') = b := ⟨_, rfl⟩
  obtain ⟨b7, h7⟩ : ∃ b, (md == md') = b := ⟨_, rfl⟩
  obtain ⟨b8, h8⟩ : ∃ b, (st == st') = b := ⟨_, rfl⟩
  rw [h1, h2, h6, h7, h8] at HQ
  cases b1
  · skip
    go_wp2_with fail
    exact HPost.out false _ (by rw [HQ.out]; rfl) HB.out
  cases b2
  · skip
    go_wp2_with fail
    exact HPost.out false _ (by rw [HQ.out]; rfl) HB.out
  cases b3
  · skip
    go_wp2_with (refine wpList_load_stop (by rfl) _ _ rfl X 2 rfl LO _ HOg.out Try.underlying37 rfl HZo.out ?_)
    intro c hc
    obtain rfl := hc.out
    go_wp2_with (refine wpList_load_stop (by rfl) _ _ rfl Y 2 rfl LP _ HOg'.out Try.underlying37 rfl HZo'.out ?_)
    intro c hc
    obtain rfl := hc.out
    go_wp2_with fail
    exact HPost.out false _ (by rw [HQ.out]; rfl) HB.out
  cases b4
  · skip
    go_wp2_with (refine wpList_load_stop (by rfl) _ _ rfl X 2 rfl LO _ HOg.out Try.underlying37 rfl HZo.out ?_)
    intro c hc
    obtain rfl := hc.out
    go_wp2_with (refine wpList_load_stop (by rfl) _ _ rfl Y 2 rfl LP _ HOg'.out Try.underlying37 rfl HZo'.out ?_)
    intro c hc
    obtain rfl := hc.out
    go_wp2_with (refine wpList_load_stop (by rfl) _ _ rfl X 34 rfl LC _ HCu.out Try.underlying37 rfl HZc.out ?_)
    intro c hc
    obtain rfl := hc.out
    go_wp2_with (refine wpList_load_stop (by rfl) _ _ rfl Y 34 rfl LD _ HCu'.out Try.underlying37 rfl HZc'.out ?_)
    intro c hc
    obtain rfl := hc.out
    go_wp2_with fail
    exact HPost.out false _ (by rw [HQ.out]; rfl) HB.out
  cases b5
  · skip
    go_wp2_with (refine wpList_load_stop (by rfl) _ _ rfl X 2 rfl LO _ HOg.out Try.underlying37 rfl HZo.out ?_)
    intro c hc
    obtain rfl := hc.out
    go_wp2_with (refine wpList_load_stop (by rfl) _ _ rfl Y 2 rfl LP _ HOg'.out Try.underlying37 rfl HZo'.out ?_)
    intro c hc
    obtain rfl := hc.out
    go_wp2_with (refine wpList_load_stop (by rfl) _ _ rfl X 34 rfl LC _ HCu.out Try.underlying37 rfl HZc.out ?_)
    intro c hc
    obtain rfl := hc.out
    go_wp2_with (refine wpList_load_stop (by rfl) _ _ rfl Y 34 rfl LD _ HCu'.out Try.underlying37 rfl HZc'.out ?_)
    intro c hc
    obtain rfl := hc.out
    go_wp2_with fail
    refine HCt.out.mono ?_
    rintro e w2 ⟨rfl, hb⟩
    have HBz := Lib.hid (HB.out.trans (hb.mono hsw))
    have hd1 : w2.cell? ⟨X, 67, none⟩ = some (.int .i64 dn) := (hb.cell (p := ⟨X, 67, none⟩) hXl).trans HD1.out
    have hd2 : w2.cell? ⟨Y, 67, none⟩ = some (.int .i64 dn') := (hb.cell (p := ⟨Y, 67, none⟩) hXl').trans HD2.out
    have hm1 : w2.cell? ⟨X, 68, none⟩ = some (.int .i64 md) := (hb.cell (p := ⟨X, 68, none⟩) hXl).trans HM1.out
    have hm2 : w2.cell? ⟨Y, 68, none⟩ = some (.int .i64 md') := (hb.cell (p := ⟨Y, 68, none⟩) hXl').trans HM2.out
    have hw1 : w2.cell? ⟨X, 69, none⟩ = some (.bool st) := (hb.cell (p := ⟨X, 69, none⟩) hXl).trans HW1.out
    have hw2 : w2.cell? ⟨Y, 69, none⟩ = some (.bool st') := (hb.cell (p := ⟨Y, 69, none⟩) hXl').trans HW2.out
    clear hb HCt
    go_wp2_with fail
    exact HPost.out false _ (by rw [HQ.out]; rfl) HBz.out
  cases b6
  · skip
    go_wp2_with (refine wpList_load_stop (by rfl) _ _ rfl X 2 rfl LO _ HOg.out Try.underlying37 rfl HZo.out ?_)
    intro c hc
    obtain rfl := hc.out
    go_wp2_with (refine wpList_load_stop (by rfl) _ _ rfl Y 2 rfl LP _ HOg'.out Try.underlying37 rfl HZo'.out ?_)
    intro c hc
    obtain rfl := hc.out
    go_wp2_with (refine wpList_load_stop (by rfl) _ _ rfl X 34 rfl LC _ HCu.out Try.underlying37 rfl HZc.out ?_)
    intro c hc
    obtain rfl := hc.out
    go_wp2_with (refine wpList_load_stop (by rfl) _ _ rfl Y 34 rfl LD _ HCu'.out Try.underlying37 rfl HZc'.out ?_)
    intro c hc
    obtain rfl := hc.out
    go_wp2_with fail
    refine HCt.out.mono ?_
    rintro e w2 ⟨rfl, hb⟩
    have HBz := Lib.hid (HB.out.trans (hb.mono hsw))
    have hd1 : w2.cell? ⟨X, 67, none⟩ = some (.int .i64 dn) := (hb.cell (p := ⟨X, 67, none⟩) hXl).trans HD1.out
    have hd2 : w2.cell? ⟨Y, 67, none⟩ = some (.int .i64 dn') := (hb.cell (p := ⟨Y, 67, none⟩) hXl').trans HD2.out
    have hm1 : w2.cell? ⟨X, 68, none⟩ = some (.int .i64 md) := (hb.cell (p := ⟨X, 68, none⟩) hXl).trans HM1.out
    have hm2 : w2.cell? ⟨Y, 68, none⟩ = some (.int .i64 md') := (hb.cell (p := ⟨Y, 68, none⟩) hXl').trans HM2.out
    have hw1 : w2.cell? ⟨X, 69, none⟩ = some (.bool st) := (hb.cell (p := ⟨X, 69, none⟩) hXl).trans HW1.out
    have hw2 : w2.cell? ⟨Y, 69, none⟩ = some (.bool st') := (hb.cell (p := ⟨Y, 69, none⟩) hXl').trans HW2.out
    clear hb HCt
    go_wp2_with fail
    exact HPost.out false _ (by rw [HQ.out]; rfl) HBz.out
  cases b7
  · skip
    go_wp2_with (refine wpList_load_stop (by rfl) _ _ rfl X 2 rfl LO _ HOg.out Try.underlying37 rfl HZo.out ?_)
    intro c hc
    obtain rfl := hc.out
    go_wp2_with (refine wpList_load_stop (by rfl) _ _ rfl Y 2 rfl LP _ HOg'.out Try.underlying37 rfl HZo'.out ?_)
    intro c hc
    obtain rfl := hc.out
    go_wp2_with (refine wpList_load_stop (by rfl) _ _ rfl X 34 rfl LC _ HCu.out Try.underlying37 rfl HZc.out ?_)
    intro c hc
    obtain rfl := hc.out
    go_wp2_with (refine wpList_load_stop (by rfl) _ _ rfl Y 34 rfl LD _ HCu'.out Try.underlying37 rfl HZc'.out ?_)
    intro c hc
    obtain rfl := hc.out
    go_wp2_with fail
    refine HCt.out.mono ?_
    rintro e w2 ⟨rfl, hb⟩
    have HBz := Lib.hid (HB.out.trans (hb.mono hsw))
    have hd1 : w2.cell? ⟨X, 67, none⟩ = some (.int .i64 dn) := (hb.cell (p := ⟨X, 67, none⟩) hXl).trans HD1.out
    have hd2 : w2.cell? ⟨Y, 67, none⟩ = some (.int .i64 dn') := (hb.cell (p := ⟨Y, 67, none⟩) hXl').trans HD2.out
    have hm1 : w2.cell? ⟨X, 68, none⟩ = some (.int .i64 md) := (hb.cell (p := ⟨X, 68, none⟩) hXl).trans HM1.out
    have hm2 : w2.cell? ⟨Y, 68, none⟩ = some (.int .i64 md') := (hb.cell (p := ⟨Y, 68, none⟩) hXl').trans HM2.out
    have hw1 : w2.cell? ⟨X, 69, none⟩ = some (.bool st) := (hb.cell (p := ⟨X, 69, none⟩) hXl).trans HW1.out
    have hw2 : w2.cell? ⟨Y, 69, none⟩ = some (.bool st') := (hb.cell (p := ⟨Y, 69, none⟩) hXl').trans HW2.out
    clear hb HCt
    go_wp2_with fail
    exact HPost.out false _ (by rw [HQ.out]; rfl) HBz.out
  cases b8
  · skip
    go_wp2_with (refine wpList_load_stop (by rfl) _ _ rfl X 2 rfl LO _ HOg.out Try.underlying37 rfl HZo.out ?_)
    intro c hc
    obtain rfl := hc.out
    go_wp2_with (refine wpList_load_stop (by rfl) _ _ rfl Y 2 rfl LP _ HOg'.out Try.underlying37 rfl HZo'.out ?_)
    intro c hc
    obtain rfl := hc.out
    go_wp2_with (refine wpList_load_stop (by rfl) _ _ rfl X 34 rfl LC _ HCu.out Try.underlying37 rfl HZc.out ?_)
    intro c hc
    obtain rfl := hc.out
    go_wp2_with (refine wpList_load_stop (by rfl) _ _ rfl Y 34 rfl LD _ HCu'.out Try.underlying37 rfl HZc'.out ?_)
    intro c hc
    obtain rfl := hc.out
    go_wp2_with fail
    refine HCt.out.mono ?_
    rintro e w2 ⟨rfl, hb⟩
    have HBz := Lib.hid (HB.out.trans (hb.mono hsw))
    have hd1 : w2.cell? ⟨X, 67, none⟩ = some (.int .i64 dn) := (hb.cell (p := ⟨X, 67, none⟩) hXl).trans HD1.out
    have hd2 : w2.cell? ⟨Y, 67, none⟩ = some (.int .i64 dn') := (hb.cell (p := ⟨Y, 67, none⟩) hXl').trans HD2.out
    have hm1 : w2.cell? ⟨X, 68, none⟩ = some (.int .i64 md) := (hb.cell (p := ⟨X, 68, none⟩) hXl).trans HM1.out
    have hm2 : w2.cell? ⟨Y, 68, none⟩ = some (.int .i64 md') := (hb.cell (p := ⟨Y, 68, none⟩) hXl').trans HM2.out
    have hw1 : w2.cell? ⟨X, 69, none⟩ = some (.bool st) := (hb.cell (p := ⟨X, 69, none⟩) hXl).trans HW1.out
    have hw2 : w2.cell? ⟨Y, 69, none⟩ = some (.bool st') := (hb.cell (p := ⟨Y, 69, none⟩) hXl').trans HW2.out
    clear hb HCt
    go_wp2_with fail
    exact HPost.out false _ (by rw [HQ.out]; rfl) HBz.out
  go_wp2_with (refine wpList_load_stop (by rfl) _ _ rfl X 2 rfl LO _ HOg.out Try.underlying37 rfl HZo.out ?_)
  intro c hc
  obtain rfl := hc.out
  go_wp2_with (refine wpList_load_stop (by rfl) _ _ rfl Y 2 rfl LP _ HOg'.out Try.underlying37 rfl HZo'.out ?_)
  intro c hc
  obtain rfl := hc.out
  go_wp2_with (refine wpList_load_stop (by rfl) _ _ rfl X 34 rfl LC _ HCu.out Try.underlying37 rfl HZc.out ?_)
  intro c hc
  obtain rfl := hc.out
  go_wp2_with (refine wpList_load_stop (by rfl) _ _ rfl Y 34 rfl LD _ HCu'.out Try.underlying37 rfl HZc'.out ?_)
  intro c hc
  obtain rfl := hc.out
  go_wp2_with fail
  refine HCt.out.mono ?_
  rintro e w2 ⟨rfl, hb⟩
  have HBz := Lib.hid (HB.out.trans (hb.mono hsw))
  have hd1 : w2.cell? ⟨X, 67, none⟩ = some (.int .i64 dn) := (hb.cell (p := ⟨X, 67, none⟩) hXl).trans HD1.out
  have hd2 : w2.cell? ⟨Y, 67, none⟩ = some (.int .i64 dn') := (hb.cell (p := ⟨Y, 67, none⟩) hXl').trans HD2.out
  have hm1 : w2.cell? ⟨X, 68, none⟩ = some (.int .i64 md) := (hb.cell (p := ⟨X, 68, none⟩) hXl).trans HM1.out
  have hm2 : w2.cell? ⟨Y, 68, none⟩ = some (.int .i64 md') := (hb.cell (p := ⟨Y, 68, none⟩) hXl').trans HM2.out
  have hw1 : w2.cell? ⟨X, 69, none⟩ = some (.bool st) := (hb.cell (p := ⟨X, 69, none⟩) hXl).trans HW1.out
  have hw2 : w2.cell? ⟨Y, 69, none⟩ = some (.bool st') := (hb.cell (p := ⟨Y, 69, none⟩) hXl').trans HW2.out
  clear hb HCt
  go_wp2_with fail
  exact HPost.out true _ (by rw [HQ.out]; rfl) HBz.out
end Go.Proofs.Ytmcmapgllaopmaa.Cd
end

section
namespace Go.Proofs.Ytmcmapgllaopmaa.Cd
open Go.RowKit
set_option linter.unusedVariables false
def byEq (l m : List Int) : Bool := (sb l).toList == (sb m).toList
def myEq (a b : My) : Bool := decide (a.key = b.key) && byEq a.l b.l
theorem bytesEq_any (A : Option Addr) (n C : Nat) (l : List Int) (A' : Option Addr) (n' C' : Nat) (l' : List Int) (w : World) (h : RdB w A n C l) (h' : RdB w A' n' C' l') :
    Calls Try.prog 100 #[.slice A n C, .slice A' n' C'] w fun e w' => e = .returned (.bool (byEq l l')) ∧ w = w' := by
  have h1 := conv_rd h
  have h2 := conv_rd h'
  have hb : ((sb l).toList == (sb l').toList) = byEq l l' := rfl
  clear h h'
  generalize byEq l l' = b at *
  generalize sb l = S at *
  generalize sb l' = T at *
  go_enter Try.func100, Try.ntmps100
  go_wp2_with fail
  go_ret
  exact ⟨rfl, rfl⟩
set_option maxRecDepth 100000 in
set_option maxHeartbeats 2000000 in
theorem sameMem_any (a b : My) (w : World) (ha : a.key.length = 32) (hb : b.key.length = 32) (h : RdB w a.A a.n a.C a.l) (h' : RdB w b.A b.n b.C b.l) :
    Calls Try.prog 80 #[.agg a.cells.toArray, .agg b.cells.toArray] w fun e w' => e = .returned (.bool (myEq a b)) ∧ Below w.heap.size w w' := by
  have hb1 := (Below.refl w.heap.size w).alloc (Nat.le_refl _) (.cells a.cells.toArray 128)
  have hr1 := row_newL w a.cells 128 33 (My.len ha)
  have hX1 : (w.alloc (.cells a.cells.toArray 128)).heap.size = w.heap.size + 1 := by show (w.heap.push _).size = _; simp
  have hb2 := hb1.alloc (al_le w _) (.cells b.cells.toArray 128)
  have hr1b := World.rowIs.alloc hr1 (.cells b.cells.toArray 128)
  have hr2 := row_newL (w.alloc (.cells a.cells.toArray 128)) b.cells 128 33 (My.len hb)
  rw [hX1] at hr2
  have ht1 := my_at ha (row_range hr1b (My.len ha))
  have ht2 := my_at hb (row_range hr2 (My.len hb))
  have HK1 := Lib.hid ht1.key
  have HK2 := Lib.hid ht2.key
  have hd1 := ht1.data
  have hd2 := ht2.data
  have HB := Lib.hid hb2
  have hself := fun W => ids_eq a.key b.key ha hb W
  have HZ1 : Hid ((Try.prog.info? 37).map (·.size) = some (bv a.key).length) := Lib.hid (by rw [bv_len, ha]; exact infoId)
  have HZ2 : Hid ((Try.prog.info? 37).map (·.size) = some (bv b.key).length) := Lib.hid (by rw [bv_len, hb]; exact infoId)
  have HCb := Lib.hid (bytesEq_any a.A a.n a.C a.l b.A b.n b.C b.l _ (h.below hb2) (h'.below hb2))
  have HQ : Hid (myEq a b = (decide (a.key = b.key) && byEq a.l b.l)) := Lib.hid rfl
  generalize myEq a b = MQ at *
  generalize decide (a.key = b.key) = q1 at *
  generalize byEq a.l b.l = q2 at *
  generalize bv a.key = L1 at *
  generalize bv b.key = L2 at *
  generalize a.cells = CA at *
  generalize b.cells = CB at *
  clear hb1 hb2 hr1 hr1b hr2 hX1 ht1 ht2 h h'
  go_enter Try.func80, Try.ntmps80
  go_upto_region 1 with (fail)
  generalize (w.alloc (.cells CA.toArray 128)).alloc (.cells CB.toArray 128) = wA at *
  cases q1
  · go_wp2_with (first
      | (refine wpList_load_gd (by rfl) _ _ rfl w.heap.size 0 rfl L1 _ HK1.out Try.underlying37 rfl HZ1.out ?_)
      | (refine wpList_load_gd (by rfl) _ _ rfl (w.heap.size + 1) 0 rfl L2 _ HK2.out Try.underlying37 rfl HZ2.out ?_))
    go_ret
    exact ⟨by rw [HQ.out]; rfl, HB.out⟩
  · go_wp2_with (first
      | (refine wpList_load_gd (by rfl) _ _ rfl w.heap.size 0 rfl L1 _ HK1.out Try.underlying37 rfl HZ1.out ?_)
      | (refine wpList_load_gd (by rfl) _ _ rfl (w.heap.size + 1) 0 rfl L2 _ HK2.out Try.underlying37 rfl HZ2.out ?_))
    refine HCb.out.mono ?_
    rintro e w' ⟨rfl, rfl⟩
    go_wp2_with fail
    go_ret
    exact ⟨by rw [HQ.out]; rfl, HB.out⟩
set_option maxRecDepth 100000 in
set_option maxHeartbeats 2000000 in
theorem eqY_any (G : Nat) (A : Option Addr) (n C : Nat) (ys : List My) (A' : Option Addr) (n' C' : Nat) (ys' : List My) (w : World) (h : RdY G w A n C ys) (h' : RdY G w A' n' C' ys') (hG : G ≤ w.heap.size) (hn : n ≤ 1000000000) (hn' : n' ≤ 1000000000) :
    Calls Try.prog 79 #[.slice A n C, .slice A' n' C', .func (.func 80) #[] #[]] w fun e w' => e = .returned (.bool (eqL myEq ys ys')) ∧ Below w.heap.size w w' := by
  have HR1 := Lib.hid h
  have HR2 := Lib.hid h'
  have hc1 := h.rd.cap
  have hm1 := h.rd.max
  have hc2 := h'.rd.cap
  have hm2 := h'.rd.max
  have HL1 : Hid (ys.length = n) := Lib.hid (by have := h.rd.len; simpa using this)
  have HL2 : Hid (ys'.length = n') := Lib.hid (by have := h'.rd.len; simpa using this)
  have HB0 := Lib.hid (Below.refl w.heap.size w)
  have hz := zeroMy
  have HUl : Hid ((My.cells ⟨List.replicate 32 0, none, 0, 0, []⟩).toArray.size = 33) := Lib.hid (by simp [My.cells, bv])
  generalize (My.cells ⟨List.replicate 32 0, none, 0, 0, []⟩).toArray = U at *
  have HPost : Hid (∀ (b : Bool) (w' : World), b = eqL myEq ys ys' → Below w.heap.size w w' → ((fun e w' => e = Ending.returned (.bool (eqL myEq ys ys')) ∧ Below w.heap.size w w') (Ending.returned (.bool b)) w')) := Lib.hid (fun b w' e hb => by subst e; exact ⟨rfl, hb⟩)
  generalize hPD : (fun e w' => e = Ending.returned (.bool (eqL myEq ys ys')) ∧ Below w.heap.size w w') = PO at *
  clear h h' hPD
  by_cases hl : n = n'
  rotate_left
  · have hd : ((n : Int) != (n' : Int)) = true := by simp; omega
    have HE : Hid (eqL myEq ys ys' = false) := Lib.hid (eqL_len (by rw [HL1.out, HL2.out]; exact hl))
    clear hl
    go_enter Try.func79, Try.ntmps79
    go_wp2_with fail
    exact HPost.out false _ HE.out.symm HB0.out
  subst hl
  have hd : ((n : Int) != (n : Int)) = false := by simp
  go_enter Try.func79, Try.ntmps79
  go_wp2_with fail
  go_loopw [17] (fun s wr => ∃ k : Nat, s = .int .i64 k ∧ k ≤ n ∧ Hid (eqL myEq (ys.drop k) (ys'.drop k) = eqL myEq ys ys') ∧ Hid (Below w.heap.size w wr)) (fun s _ => n - (intOf s).toNat)
  case atStart => exact ⟨0, rfl, Nat.zero_le _, Lib.hid rfl, HB0⟩
  case round =>
    clear HB0
    obtain ⟨k, rfl, hk, HF, HB⟩ := hrel
    by_cases hlt : k < n
    · have hsr : w.heap.size ≤ wr.heap.size := HB.out.size
      have hY1 := HR1.out.below HB.out (Nat.le_refl _) hG
      have hY2 := HR2.out.below HB.out (Nat.le_refl _) hG
      obtain ⟨g, o, hA, hg, hcc⟩ := hY1.rd.cell (by omega)
      obtain ⟨g2, o2, hA', hg2, hcc2⟩ := hY2.rd.cell (by omega)
      obtain ⟨t, ht⟩ : ∃ t, t = ys.getD k default := ⟨_, rfl⟩
      obtain ⟨t2, ht2⟩ : ∃ t2, t2 = ys'.getD k default := ⟨_, rfl⟩
      have hx1 := hcc k hlt
      rw [map_getD _ (by rw [HL1.out]; exact hlt), ← ht] at hx1
      have hx2 := hcc2 k hlt
      rw [map_getD _ (by rw [HL2.out]; exact hlt), ← ht2] at hx2
      have htm1 : t ∈ ys := by rw [ht]; exact getD_memI (by rw [HL1.out]; exact hlt)
      have htm2 : t2 ∈ ys' := by rw [ht2]; exact getD_memI (by rw [HL2.out]; exact hlt)
      have hok1 := hY1.ok t htm1
      have hok2 := hY2.ok t2 htm2
      have hst := eqL_drop myEq ys ys' k (by rw [HL1.out]; exact hlt) (by rw [HL2.out]; exact hlt)
      rw [HF.out, ← ht, ← ht2] at hst
      have HSt := Lib.hid hst
      have hS1 : Hid ((Try.prog.info? 128).map (·.size) = some t.cells.length) := Lib.hid (by rw [My.len hok1.1]; exact infoMy)
      have hS2 : Hid ((Try.prog.info? 128).map (·.size) = some t2.cells.length) := Lib.hid (by rw [My.len hok2.1]; exact infoMy)
      obtain ⟨hf, hrn⟩ := lay_new wr 128 33 U t.cells infoMy HUl.out (My.len hok1.1) t.one
      have HF1 := Lib.hid hf
      have HV1 := Lib.hid hrn
      have HB4 := Lib.hid (HB.out.trans (hf.bel.mono hsr))
      have hl4 : wr.heap.size < ((wr.alloc (.cells U 128)).setCells wr.heap.size 0 t.cells).heap.size := hrn.lt_of (by rw [My.len hok1.1]; decide)
      have HX1 := Lib.hid hx1
      have HX2 := Lib.hid (range_below hf.bel hx2 (by omega))
      have HRt := Lib.hid (hok1.2.2.below hf.bel (Nat.le_refl _) (by omega))
      have HRt2 := Lib.hid (hok2.2.2.below hf.bel (Nat.le_refl _) (by omega))
      have HO1 := Lib.hid hok1.1
      have HO2 := Lib.hid hok2.1
      subst hA hA'
      have hk0 : (0 : Int) ≤ (k : Int) := by omega
      have hk1 : (k : Int) < (n : Int) := by omega
      have hkn : k < n := hlt
      have hgl : g2 < wr.heap.size := by omega
      clear hx1 hx2 hcc hcc2 hok1 hok2 HF HB hg hg2 hst ht ht2 hf hrn hY1 hY2 htm1 htm2
      go_upto_region 6 with (first
        | (refine wpList_load_mid rfl _ _ rfl g (o + k * 33) rfl t.cells _ HX1.out Try.underlying128 rfl hS1.out ?_)
        | (refine wpList_store_mid rfl _ _ _ rfl wr.heap.size 0 t.cells.toArray rfl rfl HF1.out.there HF1.out.size HF1.out.one ?_))
      change Code.wp _ _ _ _ ((wr.alloc (.cells U 128)).setCells wr.heap.size 0 t.cells)
      clear HF1 HX1
      generalize (wr.alloc (.cells U 128)).setCells wr.heap.size 0 t.cells = w4 at *
      generalize wr.heap.size = X at *
      have hs4 : w.heap.size ≤ w4.heap.size := by omega
      obtain ⟨hf, hrn⟩ := lay_new w4 128 33 U t2.cells infoMy HUl.out (My.len HO2.out) t2.one
      have HF1 := Lib.hid hf
      have HV2 := Lib.hid hrn
      have HV1b := Lib.hid (range_below hf.bel HV1.out hl4)
      have HB5 := Lib.hid (HB4.out.trans (hf.bel.mono hs4))
      have HRu := Lib.hid (HRt.out.below hf.bel (Nat.le_refl _) (by omega))
      have HRu2 := Lib.hid (HRt2.out.below hf.bel (Nat.le_refl _) (by omega))
      have HCs := Lib.hid (sameMem_any t t2 _ HO1.out HO2.out HRu.out.rd HRu2.out.rd)
      have hs5 : w.heap.size ≤ ((w4.alloc (.cells U 128)).setCells w4.heap.size 0 t2.cells).heap.size := HB5.out.size
      clear hf hrn HV1 HB4 HRt HRt2 HRu HRu2
      go_upto_region 7 with (first
        | (refine wpList_load_mid rfl _ _ rfl g2 (o2 + k * 33) rfl t2.cells _ HX2.out Try.underlying128 rfl hS2.out ?_)
        | (refine wpList_store_mid rfl _ _ _ rfl w4.heap.size 0 t2.cells.toArray rfl rfl HF1.out.there HF1.out.size HF1.out.one ?_))
      change Code.wp _ _ _ _ ((w4.alloc (.cells U 128)).setCells w4.heap.size 0 t2.cells)
      clear HF1 HX2 hl4
      generalize (w4.alloc (.cells U 128)).setCells w4.heap.size 0 t2.cells = w5 at *
      generalize w4.heap.size = Y at *
      generalize myEq t t2 = b at *
      generalize t.cells = EL at *
      generalize t2.cells = ER at *
      cases b
      · rw [Bool.false_and] at HSt
        go_wp2_with (first
          | (refine wpList_load_mid rfl _ _ rfl X 0 rfl EL _ HV1b.out Try.underlying128 rfl hS1.out ?_)
          | (refine wpList_load_mid rfl _ _ rfl Y 0 rfl ER _ HV2.out Try.underlying128 rfl hS2.out ?_))
        refine HCs.out.mono ?_
        rintro e w6 ⟨rfl, hb⟩
        have HB6 := Lib.hid (HB5.out.trans (hb.mono hs5))
        clear hb HCs
        go_wp2_with fail
        exact HPost.out false _ HSt.out.symm HB6.out
      · rw [Bool.true_and] at HSt
        have HSt2 := Lib.hid HSt.out.symm
        go_wp2_with (first
          | (refine wpList_load_mid rfl _ _ rfl X 0 rfl EL _ HV1b.out Try.underlying128 rfl hS1.out ?_)
          | (refine wpList_load_mid rfl _ _ rfl Y 0 rfl ER _ HV2.out Try.underlying128 rfl hS2.out ?_))
        refine HCs.out.mono ?_
        rintro e w6 ⟨rfl, hb⟩
        have HB6 := Lib.hid (HB5.out.trans (hb.mono hs5))
        clear hb HCs
        go_wp2_with fail
        go_roundw
        case rel => exact ⟨k + 1, by go_num, by omega, HSt2, HB6⟩
        case measure => simp [intOf]; omega
    · have hd2 : decide ((k : Int) < (n : Int)) = false := by simp; omega
      have HE : Hid (eqL myEq ys ys' = true) := Lib.hid (by
        have h := HF.out
        rw [List.drop_of_length_le (by rw [HL1.out]; omega), List.drop_of_length_le (by rw [HL2.out]; omega)] at h
        exact h.symm)
      clear HF
      go_wp2_with fail
      exact HPost.out true _ HE.out.symm HB.out
end Go.Proofs.Ytmcmapgllaopmaa.Cd
end
