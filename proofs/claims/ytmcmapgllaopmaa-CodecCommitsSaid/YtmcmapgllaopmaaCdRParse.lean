/- The document's ParseTree of any bytes. -/
import Derived.Test.YtmcmapgllaopmaaCdREntry
namespace Go.Proofs.Ytmcmapgllaopmaa.Cd
open Go.RowKit
set_option linter.unusedVariables false

/-- an entry's cells by their index -/
def etF (nm : ByteArray) (k : Int) (ids : List Int) : Nat → Value
  | 0 => .string nm
  | 1 => .int .i64 k
  | j + 2 => .int .u8 (ids.getD j 0)
theorem ent_getD (nm : ByteArray) (k : Int) (ids : List Int) (hl : ids.length = 32) (j : Nat) (hj : j < 34) : (ent nm k ids)[j]? = some (etF nm k ids j) := by
  match j, hj with
  | 0, _ => rfl
  | 1, _ => rfl
  | j + 2, h =>
    show (bv ids)[j]? = some (.int .u8 (ids.getD j 0))
    simp [bv, List.getD, show j < ids.length by omega]
theorem ent_length (nm : ByteArray) (k : Int) (ids : List Int) (hl : ids.length = 32) : (ent nm k ids).length = 34 := by simp [ent, bv, hl]
theorem ent_one' (nm : ByteArray) (k : Int) (ids : List Int) : ∀ v ∈ ent nm k ids, v.oneCell' = true := by
  intro v hv
  rcases List.mem_cons.1 hv with rfl | hv
  · rfl
  · rcases List.mem_cons.1 hv with rfl | hv
    · rfl
    · exact bv_one ids v hv
theorem en_start {w : World} {X : Nat} {f : Nat → Value} (h : w.rowIs X 87 34 f) (nm : ByteArray) (k : Int) (ids : List Int) (hl : ids.length = 32) : (w.setCells X 0 (ent nm k ids)).rowIs X 87 34 (etF nm k ids) :=
  (row_lay h 0 (ent nm k ids)).congr (fun j hj => by
    have hlen := ent_length nm k ids hl
    rw [layF, if_pos (by omega), Nat.sub_zero, List.getD_eq_getElem?_getD, ent_getD nm k ids hl j hj]
    rfl)
theorem en_name {w : World} {X : Nat} {nm : ByteArray} {k : Int} {ids : List Int} (h : w.rowIs X 87 34 (etF nm k ids)) (nm' : ByteArray) : (w.setCell ⟨X, 0, none⟩ (.string nm')).rowIs X 87 34 (etF nm' k ids) :=
  (h.set 0 _).congr (fun j _ => by
    match j with
    | 0 => rfl
    | 1 => rfl
    | j + 2 => rfl)
theorem en_id {w : World} {X : Nat} {nm : ByteArray} {k : Int} {ids : List Int} (h : w.rowIs X 87 34 (etF nm k ids)) (ids' : List Int) (hl : ids'.length = 32) : (w.setCells X 2 (bv ids')).rowIs X 87 34 (etF nm k ids') :=
  (row_lay h 2 (bv ids')).congr (fun j hj => by
    rw [layF, bv_len, hl]
    match j, hj with
    | 0, _ => rfl
    | 1, _ => rfl
    | j + 2, hj =>
      rw [if_pos (by omega)]
      show (bv ids').getD j undef = .int .u8 (ids'.getD j 0)
      simp [bv, List.getD, show j < ids'.length by omega])
theorem en_range {w : World} {X : Nat} {nm : ByteArray} {k : Int} {ids : List Int} (h : w.rowIs X 87 34 (etF nm k ids)) (hl : ids.length = 32) : w.rangeAt X 0 (ent nm k ids) := fun j v hj => by
  have hlen := (List.getElem?_eq_some_iff.1 hj).1
  rw [ent_length nm k ids hl] at hlen
  rw [Nat.zero_add, h.cell hlen, ← hj, ent_getD nm k ids hl j hlen]
theorem en_there {w : World} {X : Nat} {f : Nat → Value} (h : w.rowIs X 87 34 f) (o n : Nat) (hn : o + n ≤ 34) : w.there X o n := fun j hj =>
  ⟨by rw [h.cell (show o + j < 34 by omega)]; rfl, h.frozen _⟩

theorem wpList_build_ent (w : World) {ops : Array Oper} {rest : List Oper} {o : Oper} {a : Act} {Q : Exit → Act → World → Prop} (hgd : o.guard = none) (x : Operand)
    (ho : o.op = .buildSlice 22 1 #[(0, x)]) (cs : List Value) (hx : a.eval x = .agg cs.toArray) (hl : cs.length = 34)
    (h : wpList Try.prog ops Q rest (a.put o.dst (.slice (some ⟨w.heap.size, 0, none⟩) 1 1)) (w.alloc (.cells cs.toArray 87))) : wpList Try.prog ops Q (o :: rest) a w := by
  obtain ⟨i0, hi, hz0, hz1, hz2⟩ := info_parts info87
  refine wpList_buildSlice hgd 22 87 1 #[(0, x)] ho cs.toArray i0 _ Try.underlying22 hi hz0 (by rw [hz1]; decide) (by rw [hz1]; decide) ?_ h
  rw [hz1]
  have hz34 : (Value.agg (ent ByteArray.empty 0 (List.replicate 32 0)).toArray).cells.size = 34 := by simp [Value.cells, ent, bv]
  have := Great.fill_whole (s := 34) (by decide) [Value.agg cs.toArray] ((Array.range (1 * 34)).map ((Value.agg (ent ByteArray.empty 0 (List.replicate 32 0)).toArray).cells[· % (Value.agg (ent ByteArray.empty 0 (List.replicate 32 0)).toArray).cells.size]!)) (by simp [Value.cells, hl]) (by simp)
  simpa [hx, Value.cells] using this
theorem wpList_append_ent (w : World) {ops : Array Oper} {rest : List Oper} {o : Oper} {a : Act} {Q : Exit → Act → World → Prop} (hgd : o.guard = none) (s x : Operand)
    (ho : o.op = .call { callee := .builtin .append, args := #[s, x], argTypes := #[22, 22] })
    (B : Nat) (v : Value) (n : Nat) (d : List Fr.Ent) (hs : a.eval s = v) (hown : w.ownsRow B 87 34 v n (entsV d))
    (g : Nat) (y : Fr.Ent) (hx : a.eval x = .slice (some ⟨g, 0, none⟩) 1 1) (hy : ∀ j u, y.cells[j]? = some u → w.cell? ((⟨g, 0, none⟩ : Addr).add j) = some u) (hyl : y.cells.length = 34)
    (hn : n ≤ 1000000) (hbase : B ≤ w.heap.size)
    (h : ∀ A' C' w', w'.ownsRow B 87 34 (.slice A' (n + 1) C') (n + 1) (entsV (d ++ [y])) → w.grownBy w' v.ownBlock → wpList Try.prog ops Q rest (a.put o.dst (.slice A' (n + 1) C')) w') : wpList Try.prog ops Q (o :: rest) a w := by
  refine wpList_plain hgd fun K hK => ?_
  obtain ⟨i0, hi, hz0, hz1, hz2⟩ := info_parts info87
  obtain ⟨v', w', hr, h2, h3, h4⟩ := run_append_own (P := Try.prog) w B 22 o.type 87 i0 (.agg (ent ByteArray.empty 0 (List.replicate 32 0)).toArray) 34 56 Try.underlying22 hi hz0 hz1 hz2 (by simp [Value.cells, ent, bv]) (by decide) v n (entsV d) hown ⟨g, 0, none⟩ 1 1 y.cells (by rw [hyl]) hy (ent_one y) (by unfold maxLen; omega) (by omega) hbase
  obtain ⟨A', C', rfl⟩ := own_slice' h2
  unfold Oper.wp execOp
  simp only [ho, resolve, invoke, builtin, Sem.run_bind, Sem.run_pure, Result.andThen_ok, List.map_toArray, List.map_cons, List.map_nil, hs, hx, hr]
  exact hK _ _ (h A' C' w' (by rw [show entsV (d ++ [y]) = entsV d ++ y.cells from by simp [entsV]]; exact h2) h3)

theorem Cu.setX {w : World} {R : Nat} {A : Option Addr} {L C : Nat} {l : List Int} {p : Nat} {cut : Bool} (h : Cu w R A L C l p cut) (X i : Nat) (v : Value) (hX : X ≠ R) (ha : ∀ x, A = some x → 0 < L → x.block ≠ X) : Cu (w.setCell ⟨X, i, none⟩ v) R A L C l p cut :=
  ⟨h.row.setOther (a := ⟨X, i, none⟩) (Ne.symm hX) v, h.rd.grown (grown_set w X i v) ha, h.apart, h.le⟩
theorem Cu.belowB {w w' : World} {R : Nat} {A : Option Addr} {L C : Nat} {l : List Int} {p : Nat} {cut : Bool} {B : Nat} (h : Cu w R A L C l p cut) (hb : Below B w w') (hR : R < B) (hA : ∀ x, A = some x → 0 < L → x.block < B) : Cu w' R A L C l p cut :=
  ⟨h.row.of_block (hb.block R hR), ⟨h.rd.len, h.rd.cap, h.rd.max, h.rd.big, h.rd.none, h.rd.byte, fun x hx => by
    obtain ⟨h1, h2⟩ := h.rd.cell x hx
    refine ⟨fun h0 => Nat.lt_of_lt_of_le (h1 h0) hb.size, fun i hi => ?_⟩
    have e : (x.add i).block = x.block := add_block x i
    rw [hb.cell (p := x.add i) (by rw [e]; exact hA x hx (by omega))]
    exact h2 i hi⟩, h.apart, h.le⟩
theorem fl_14 (e : Int) : fl 14 e = 14 := by unfold fl; rw [if_neg (by decide)]
theorem fl_4 (e : Int) : fl 4 e = 4 := by unfold fl; rw [if_neg (by decide)]
theorem fl_0 (e : Int) : fl 0 e = e := by unfold fl; rw [if_pos rfl]

set_option maxRecDepth 100000 in
set_option maxHeartbeats 4000000 in
theorem rparseTree_any (A : Option Addr) (L C : Nat) (l : List Int) (w : World) (h : RdB w A L C l) :
    Calls Try.prog 15 #[.slice A L C] w (PtRet l L w) := by
  have hb0 := (Below.refl w.heap.size w).alloc (Nat.le_refl _) (.cells #[.slice A L C, .int .i64 0, .bool false] 99)
  have hX1 : (w.alloc (.cells #[.slice A L C, .int .i64 0, .bool false] 99)).heap.size = w.heap.size + 1 := by show (w.heap.push _).size = _; simp
  have HU0 : Hid (Cu (w.alloc (.cells #[.slice A L C, .int .i64 0, .bool false] 99)) w.heap.size A L C l 0 false) := Lib.hid (by
    have hr := row_new w #[.slice A L C, .int .i64 0, .bool false] 99
    refine ⟨hr.congr (fun j hj => ?_), h.below hb0, fun x hx h0 => ?_, Nat.zero_le _⟩
    · match j, hj with
      | 0, _ => rfl
      | 1, _ => rfl
      | 2, _ => rfl
    · have := (h.cell x hx).1 h0; omega)
  have HB0 := Lib.hid hb0
  have HLt : Hid (∀ x, A = some x → 0 < L → x.block < w.heap.size) := Lib.hid (fun x hx h0 => (h.cell x hx).1 h0)
  have hzE := zeroE
  have HL := Lib.hid h.len
  have HBy := Lib.hid h.byte
  clear h hb0
  generalize hZE : (ent ByteArray.empty 0 (List.replicate 32 0)).toArray = ZE at *
  have HZE := Lib.hid hZE
  clear hZE
  go_enter Try.func15, Try.ntmps15
  go_upto_region 3 with (fail)
  have hR0 : w.heap.size < (w.alloc (.cells #[.slice A L C, .int .i64 0, .bool false] 99)).heap.size := by omega
  generalize w.alloc (.cells #[.slice A L C, .int .i64 0, .bool false] 99) = w1 at *
  obtain ⟨R, hR⟩ : ∃ R, R = w.heap.size := ⟨_, rfl⟩
  rw [← hR] at HU0 HLt hR0 HB0 ⊢
  have HRw := Lib.hid hR
  clear hR hX1
  go_wp2_with fail
  go_loopw [5, 6] (fun s5 s6 wr => ∃ (n p : Nat) (Ae : Option Addr) (ne Ce : Nat) (es : List Fr.Ent) (last : ByteArray), s5 = .slice Ae ne Ce ∧ s6 = .string last ∧ L - p < n ∧ ne ≤ 512 ∧ Hid (pT l L n p es = pT l L (L + 1) 0 []) ∧ Hid (es.length = ne) ∧ Hid (lastN es = if (ne == 0) = true then none else some last) ∧ Hid (∀ x ∈ es, x.id.length = 32) ∧ Hid (wr.ownsRow (R + 1) 87 34 (.slice Ae ne Ce) ne (entsV es)) ∧ Hid (Cu wr R A L C l p false) ∧ Hid (Below R w wr)) (fun _ _ wr => L - atOf wr R)
  case atStart => exact ⟨L + 1, 0, none, 0, 0, [], ByteArray.empty, rfl, rfl, by omega, by decide, Lib.hid rfl, Lib.hid rfl, Lib.hid rfl, Lib.hid (by simp), Lib.hid ⟨by simp [entsV], .inl ⟨rfl, rfl⟩⟩, HU0, HB0⟩
  case round =>
    clear HU0 HB0
    obtain ⟨n, p, Ae, ne, Ce, es, last, rfl, rfl, hn, hne, HP, HEl, HLa, HId, HO, HU, HB⟩ := hrel
    obtain ⟨n, rfl⟩ : ∃ m, n = m + 1 := ⟨n - 1, by omega⟩
    have hle := HU.out.le
    have hat : atOf wr R = p := by unfold atOf; rw [HU.out.c1]; rfl
    have HAt := Lib.hid hat
    have hc1 := HU.out.c1
    have hRw : R < wr.heap.size := HU.out.row.lt
    clear hat
    by_cases he : p = L
    · have hd : decide ((p : Int) < (L : Int)) = false := by simp; omega
      have hd2 : ¬ p < L := by omega
      have hp : pT l L (L + 1) 0 [] = (0, es) := by rw [← HP.out, pT, if_pos he]
      have HPp := Lib.hid hp
      clear hp he HP
      go_wp2_with fail
      go_ret2
      refine ⟨by rw [← HRw.out]; exact HB.out, .inr ?_⟩
      rw [HPp.out]
      refine ⟨rfl, HId.out, Ae, Ce, ?_, ?_⟩
      · rw [HEl.out]; rfl
      · rw [HEl.out]; exact own_base HO.out (by rw [HRw.out]; omega)
    · have hd : decide ((p : Int) < (L : Int)) = true := by simp; omega
      have hd2 : p < L := by omega
      have HNu := Lib.hid (cnum_r R A L C l p false 1 wr HU.out (by omega))
      unfold CnRet at HNu
      rw [(cu_num (cut := false) (l := l) (p := p) (n := 1) (L := L) (by omega) HL.out HBy.out).1, show ((1 : Nat) : Int) = 1 from rfl] at HNu
      have hr1 := rd1_cu l p L
      generalize hK : nv (cuB false l p 1 L) = K at *
      clear hK
      go_wp2_with fail
      refine HNu.out.mono ?_
      rintro e w2 ⟨rfl, hU2, hg2⟩
      have hxr := row_new w2 ZE 87
      have hZs : ZE.size = 34 := by rw [← HZE.out, List.size_toArray, ent_length _ _ _ (by simp)]
      rw [hZs] at hxr
      have HTh := Lib.hid (en_there hxr 0 (ent ByteArray.empty K (List.replicate 32 0)).toArray.size (by rw [List.size_toArray, ent_length _ _ _ (by simp)]; decide))
      have HSz : Hid ((Try.prog.info? 87).map (·.size) = some (ent ByteArray.empty K (List.replicate 32 0)).toArray.size) := Lib.hid (by rw [List.size_toArray, ent_length _ _ _ (by simp)]; kernel_rfl)
      have HOne := Lib.hid (all_oneCell_toArray (ent_one' ByteArray.empty K (List.replicate 32 0)))
      have HX3 := Lib.hid (en_start hxr ByteArray.empty K (List.replicate 32 0) (by simp))
      have hb23 := (Below.refl w2.heap.size w2).alloc (Nat.le_refl _) (.cells ZE 87)
      have hR2 : R < w2.heap.size := hU2.row.lt
      have HU3 := Lib.hid (Cu.laid (X := w2.heap.size) (by omega) (ent ByteArray.empty K (List.replicate 32 0)) 0 _ (fun x hx h0 => by have := HLt.out x hx h0; omega) (hU2.below hb23))
      have HO3 := Lib.hid (own_grown (own_keep (own_grown HO.out hg2 (fun e => by have := (HO.out.lt R e).1; omega)) hb23) (grown_cells _ w2.heap.size (ent ByteArray.empty K (List.replicate 32 0)) 0) (fun e => by have := ((own_grown HO.out hg2 (fun e => by have := (HO.out.lt R e).1; omega)).lt w2.heap.size e).2; omega))
      have HB3 := Lib.hid (below_cells (show R ≤ w2.heap.size by omega) (ent ByteArray.empty K (List.replicate 32 0)) 0 _ ((HB.out.grown hg2 (by omega) (fun k hk => by have := Option.some.inj hk; omega)).alloc (show R ≤ w2.heap.size by omega) (.cells ZE 87)))
      have HSet : Hid (ZE.setIfInBounds 1 (.int .i64 K) = (ent ByteArray.empty K (List.replicate 32 0)).toArray) := Lib.hid (by rw [← HZE.out]; simp [ent, List.setIfInBounds_toArray])
      have hZ2 : ¬ ZE.size < 2 := by omega
      have HNX0 : Hid (∀ k, (Value.slice Ae ne Ce).ownBlock = some k → k < w2.heap.size) := Lib.hid (fun k e => by
        have h1 := own_grown HO.out hg2 (fun e => by have := (HO.out.lt R e).1; omega)
        exact (h1.lt k e).2)
      clear hxr hb23 hU2 hg2 HNu HO HU HB
      go_upto_region 6 with (refine wpList_store_mid rfl _ _ _ rfl w2.heap.size 0 (ent ByteArray.empty K (List.replicate 32 0)).toArray rfl (show _ = _ from congrArg Value.agg HSet.out) HTh.out HSz.out HOne.out ?_)
      have hXs : w2.heap.size < ((w2.alloc (.cells ZE 87)).setCells w2.heap.size 0 (ent ByteArray.empty K (List.replicate 32 0))).heap.size := HX3.out.lt
      have HNX : Hid ((Value.slice Ae ne Ce).ownBlock ≠ some w2.heap.size) := Lib.hid (fun e => by
        have h1 := HNX0.out w2.heap.size e
        omega)
      have HNR : Hid ((Value.slice Ae ne Ce).ownBlock ≠ some R) := Lib.hid (fun e => by have := (HO3.out.lt R e).1; omega)
      clear HTh HSz HOne HSet
      change Code.wp _ _ _ _ ((w2.alloc (.cells ZE 87)).setCells w2.heap.size 0 (ent ByteArray.empty K (List.replicate 32 0)))
      generalize (w2.alloc (.cells ZE 87)).setCells w2.heap.size 0 (ent ByteArray.empty K (List.replicate 32 0)) = w3 at *
      generalize w2.heap.size = X at *
      obtain ⟨P1, hP1⟩ : ∃ P1, P1 = cuP false p 1 L := ⟨_, rfl⟩
      obtain ⟨C1, hC1⟩ : ∃ C1, C1 = cuC false p 1 L := ⟨_, rfl⟩
      rw [← hP1, ← hC1] at HU3 hr1
      clear hP1 hC1
      have HTx := Lib.hid (ctext_r R A L C l P1 C1 1 w3 HU3.out (by omega))
      have hml := cuB_len C1 l P1 1 L
      have hmb := (cu_num (cut := C1) (l := l) (p := P1) (n := 1) (L := L) (by omega) HL.out HBy.out).2
      have hsz : (sb (ctB C1 l P1 1 L)).size ≤ 140737488355327 := by
        rw [sb_size]
        have h1 := cuB_len (cuC C1 P1 1 L) l (cuP C1 P1 1 L) (ctM C1 l P1 1 L) L
        have h2 : ctM C1 l P1 1 L < 16777216 := by unfold ctM; omega
        unfold ctB
        omega
      rw [show ((1 : Nat) : Int) = 1 from rfl] at HTx
      obtain ⟨nm, hnm⟩ : ∃ nm, nm = sb (ctB C1 l P1 1 L) := ⟨_, rfl⟩
      obtain ⟨P2, hP2⟩ : ∃ P2, P2 = ctP C1 l P1 1 L := ⟨_, rfl⟩
      obtain ⟨C2, hC2⟩ : ∃ C2, C2 = ctC C1 l P1 1 L := ⟨_, rfl⟩
      unfold CtRet at HTx
      rw [← hnm] at hsz HTx hr1
      rw [← hP2, ← hC2] at HTx hr1
      have Hsz := Lib.hid hsz
      have Hr1 := Lib.hid hr1
      clear hml hmb hsz hnm hP2 hC2 hr1
      go_wp2_with fail
      refine HTx.out.mono ?_
      rintro e w4 ⟨rfl, hU4, hg4⟩
      have HX4 := Lib.hid (World.rowIs.of_block HX3.out (hg4.block X hXs (fun e => by have := Option.some.inj e; omega)))
      have hc4 : w4.cell? ⟨X, 0, none⟩ = some _ := HX4.out.cell (i := 0) (by omega)
      have hf4 : w4.frozen? ⟨X, 0, none⟩ = false := HX4.out.frozen _
      have HX5 := Lib.hid (en_name HX4.out nm)
      have HU5 := Lib.hid (Cu.setX hU4 X 0 (.string nm) (by omega) (fun x hx h0 => by have := HLt.out x hx h0; omega))
      have HO5 := Lib.hid (own_grown (own_grown HO3.out hg4 HNR.out) (grown_set w4 X 0 (.string nm)) HNX.out)
      have HB5 := Lib.hid ((HB3.out.grown hg4 (by omega) (fun k hk => by have := Option.some.inj hk; omega)).setCell (p := ⟨X, 0, none⟩) (show R ≤ X by omega) (.string nm))
      have hs4 : X < w4.heap.size := Nat.lt_of_lt_of_le hXs hg4.size
      clear hU4 hg4 HX3 HU3 HO3 HB3 HTx HX4
      go_upto_region 7 with (fail)
      have hs5 : X < (w4.setCell ⟨X, 0, none⟩ (.string nm)).heap.size := HX5.out.lt
      generalize w4.setCell ⟨X, 0, none⟩ (.string nm) = w5 at *
      clear hc4 hf4 hs4
      have HIr := Lib.hid (cid_r R A L C l P2 C2 w5 HU5.out)
      unfold CiRet at HIr
      have hil : (idv (cuB C2 l P2 32 L)).length = 32 := idv_len _ (cuB_len _ _ _ _ _)
      obtain ⟨ids, hids⟩ : ∃ ids, ids = idv (cuB C2 l P2 32 L) := ⟨_, rfl⟩
      obtain ⟨P3, hP3⟩ : ∃ P3, P3 = cuP C2 P2 32 L := ⟨_, rfl⟩
      obtain ⟨C3, hC3⟩ : ∃ C3, C3 = cuC C2 P2 32 L := ⟨_, rfl⟩
      have hr1 := Hr1.out
      rw [← hids] at HIr hil hr1
      rw [← hP3, ← hC3] at HIr hr1
      have Hr2 := Lib.hid hr1
      clear hids hP3 hC3 hr1 Hr1
      go_wp2_with fail
      refine HIr.out.mono ?_
      rintro e w6 ⟨rfl, hU6, hg6⟩
      have HX6 := Lib.hid (World.rowIs.of_block HX5.out (hg6.block X hs5 (fun e => by have := Option.some.inj e; omega)))
      have HTh := Lib.hid (en_there HX6.out 2 (bv ids).toArray.size (by rw [List.size_toArray, bv_len, hil]; decide))
      have HSz : Hid ((Try.prog.info? 37).map (·.size) = some (bv ids).toArray.size) := Lib.hid (by rw [List.size_toArray, bv_len, hil]; kernel_rfl)
      have HOne := Lib.hid (all_oneCell_toArray (bv_one ids))
      have HX7 := Lib.hid (en_id HX6.out ids hil)
      have HU7 := Lib.hid (Cu.laid (X := X) (by omega) (bv ids) 2 _ (fun x hx h0 => by have := HLt.out x hx h0; omega) hU6)
      have HO7 := Lib.hid (own_grown (own_grown HO5.out hg6 HNR.out) (grown_cells w6 X (bv ids) 2) HNX.out)
      have HB7 := Lib.hid (below_cells (show R ≤ X by omega) (bv ids) 2 _ (HB5.out.grown hg6 (by omega) (fun k hk => by have := Option.some.inj hk; omega)))
      have HIl := Lib.hid hil
      clear hU6 hg6 HX5 HU5 HO5 HB5 HIr HX6 hil
      go_upto_region 8 with (refine wpList_store_mid rfl _ _ _ rfl X 2 (bv ids).toArray rfl rfl HTh.out HSz.out HOne.out ?_)
      change Code.wp _ _ _ _ (w6.setCells X 2 (bv ids))
      have hs7 : X < (w6.setCells X 2 (bv ids)).heap.size := HX7.out.lt
      clear HTh HSz HOne hs5
      generalize w6.setCells X 2 (bv ids) = w7 at *
      have hc2 := HU7.out.c2
      cases C3 with
      | true =>
        have hF : rdF l p L ne (lastN es) = 14 := by
          unfold rdF
          rw [Hr2.out]
          show fl (if ne = 512 then fl (ff true) 4 else ff true) _ = 14
          have : ff true = 14 := rfl
          rw [this, fl_14, ite_self, fl_14]
        have hp : pT l L (L + 1) 0 [] = (14, []) := by rw [← HP.out, pT, if_neg he, HEl.out, hF, if_neg (by decide)]
        have HPp := Lib.hid hp
        clear hp hF HP
        go_wp2_with fail
        go_ret2
        refine ⟨by rw [← HRw.out]; exact HB7.out, .inl ?_⟩
        rw [HPp.out]
        exact ⟨by decide, rfl⟩
      | false =>
        by_cases h512 : ne = 512
        · have hF : rdF l p L ne (lastN es) = 4 := by
            unfold rdF
            rw [Hr2.out]
            show fl (if ne = 512 then fl (ff false) 4 else ff false) _ = 4
            have : ff false = 0 := rfl
            rw [this, fl_0, if_pos h512, fl_4]
          have hp : pT l L (L + 1) 0 [] = (4, []) := by rw [← HP.out, pT, if_neg he, HEl.out, hF, if_neg (by decide)]
          have HPp := Lib.hid hp
          have h5 : ((ne : Int) == 512) = true := by simp; omega
          clear hp hF HP
          go_wp2_with fail
          go_ret2
          refine ⟨by rw [← HRw.out]; exact HB7.out, .inl ?_⟩
          rw [HPp.out]
          exact ⟨by decide, rfl⟩
        · have h5 : ((ne : Int) == 512) = false := by simp; omega
          obtain ⟨b, hb⟩ : ∃ b, (ne == 0) = b := ⟨_, rfl⟩
          have hbi : ((ne : Int) == 0) = b := by rw [← hb]; cases hq : (ne == 0) <;> simp_all
          have hF : rdF l p L ne (lastN es) = ce K nm ids (if b = true then none else some last) := by
            unfold rdF
            rw [Hr2.out, HLa.out, hb]
            show fl (if ne = 512 then fl (ff false) 4 else ff false) _ = _
            have : ff false = 0 := rfl
            rw [this, if_neg h512, fl_0]
          have HEn := Lib.hid (rentry_any nm K ids HIl.out Hsz.out b last w7)
          obtain ⟨E, hE⟩ : ∃ E, E = ce K nm ids (if b = true then none else some last) := ⟨_, rfl⟩
          rw [← hE] at HEn hF
          have HRg := Lib.hid (en_range HX7.out HIl.out)
          have HSz : Hid ((Try.prog.info? 87).map (·.size) = some (ent nm K ids).length) := Lib.hid (by rw [ent_length nm K ids HIl.out]; kernel_rfl)
          clear hE
          clear hb
          go_wp2_with (refine wpList_load_mid rfl _ _ rfl X 0 rfl (ent nm K ids) _ HRg.out Try.underlying87 rfl HSz.out ?_)
          refine HEn.out.mono ?_
          rintro e w8 ⟨rfl, hb8⟩
          have HX8 := Lib.hid (World.rowIs.of_block HX7.out (hb8.block X hs7))
          have HU8 := Lib.hid (HU7.out.below hb8)
          have HO8 := Lib.hid (own_keep HO7.out hb8)
          have HB8 := Lib.hid (HB7.out.trans (hb8.mono (by omega)))
          have hs8 : X < w8.heap.size := Nat.lt_of_lt_of_le hs7 hb8.size
          clear hb8 HX7 HU7 HO7 HB7 HRg HEn hs7 hc2
          by_cases h0 : E = 0
          · have hE0 : (E != 0) = false := by simp [h0]
            have hF0 : rdF l p L ne (lastN es) = 0 := hF.trans h0
            have hp : pT l L n P3 (es ++ [⟨nm, K, ids⟩]) = pT l L (L + 1) 0 [] := by
              have h := HP.out
              rw [pT, if_neg he, HEl.out, if_pos hF0, Hr2.out] at h
              exact h
            have hst := rd_step hF0
            rw [Hr2.out] at hst
            have HPp := Lib.hid hp
            have HSt := Lib.hid (show p + 34 ≤ P3 ∧ ne ≠ 512 from hst)
            have HRg := Lib.hid (en_range HX8.out HIl.out)
            have hcn : w8.cell? ⟨X, 0, none⟩ = some (.string nm) := HX8.out.cell (i := 0) (by omega)
            have hb9 := (Below.refl w8.heap.size w8).alloc (Nat.le_refl _) (.cells (ent nm K ids).toArray 87)
            have HU9 := Lib.hid (HU8.out.below hb9)
            have HO9 := Lib.hid (own_keep HO8.out hb9)
            have HB9 := Lib.hid (HB8.out.alloc (show R ≤ w8.heap.size by omega) (.cells (ent nm K ids).toArray 87))
            have HNew := Lib.hid (new_ent w8 ⟨nm, K, ids⟩ 87)
            have hs9 : R + 1 ≤ (w8.alloc (.cells (ent nm K ids).toArray 87)).heap.size := by have := al_lt w8 (.cells (ent nm K ids).toArray 87); omega
            have HEl2 := Lib.hid (ent_length nm K ids HIl.out)
            have hE00 : (0 : Int) = E := h0.symm
            clear hp hst hF hF0 HP HX8 hb9 HU8 HO8 HB8 hE00 h0
            go_wp2_with (first
              | (refine wpList_load_mid rfl _ _ rfl X 0 rfl (ent nm K ids) _ HRg.out Try.underlying87 rfl HSz.out ?_)
              | (refine wpList_build_ent _ rfl _ rfl (ent nm K ids) rfl HEl2.out ?_)
              | (refine wpList_append_ent _ rfl _ _ rfl (R + 1) _ ne es rfl HO9.out w8.heap.size ⟨nm, K, ids⟩ rfl HNew.out HEl2.out (by omega) hs9 ?_))
            intro A' C' w10 ho hg
            have HO10 := Lib.hid ho
            have hbb : Below (R + 1) (w8.alloc (.cells (ent nm K ids).toArray 87)) w10 := (Below.refl (R + 1) _).grown hg hs9 (fun k hk => (HO9.out.lt k hk).1)
            have HU10 := Lib.hid (HU9.out.belowB hbb (by omega) (fun x hx h0 => by have := HLt.out x hx h0; omega))
            have HB10 := Lib.hid (HB9.out.trans (hbb.mono (by omega)))
            clear ho hg hbb HO9 HU9 HB9 HNew HRg hcn
            generalize w8.alloc (.cells (ent nm K ids).toArray 87) = w9 at *
            go_wp2_with fail
            go_roundw
            case rel => exact ⟨n, P3, A', ne + 1, C', es ++ [⟨nm, K, ids⟩], nm, rfl, rfl, by have := HSt.out.1; omega, by have := HSt.out.2; omega, HPp, Lib.hid (by rw [List.length_append, HEl.out]; rfl), Lib.hid (by simp [lastN]), Lib.hid (fun x hx => by
              rcases List.mem_append.1 hx with hx | hx
              · exact HId.out x hx
              · rw [List.mem_singleton.1 hx]; exact HIl.out), HO10, HU10, HB10⟩
            case measure =>
              have h1 := HAt.out
              have h2 : atOf w10 R = P3 := by unfold atOf; rw [HU10.out.c1]; rfl
              have h3 := HSt.out.1
              omega
          · have hE0 : (E != 0) = true := by simp [h0]
            have hp : pT l L (L + 1) 0 [] = (E, []) := by
              rw [← HP.out, pT, if_neg he, HEl.out, hF, if_neg h0]
            have HPp := Lib.hid hp
            have H0 := Lib.hid h0
            clear hp hF HP HX8 HU8 HO8 h0
            go_wp2_with fail
            go_ret2
            refine ⟨by rw [← HRw.out]; exact HB8.out, .inl ?_⟩
            rw [HPp.out]
            exact ⟨H0.out, rfl⟩
end Go.Proofs.Ytmcmapgllaopmaa.Cd
