/- The tree's reader: what stands in its block, and the entries read. -/
import Derived.Test.YtmcmapgllaopmaaCdId
import Derived.Test.YtmcmapgllaopmaaCdCheck
import Derived.Test.YtmcmapgllaopmaaFrEnts
import Derived.Great.BuildSlice
namespace Go.Proofs.Ytmcmapgllaopmaa.Cd
open Go.RowKit
set_option linter.unusedVariables false

def entsV (es : List Fr.Ent) : List Value := es.flatMap Fr.Ent.cells
theorem ent_len (x : Fr.Ent) (h : x.id.length = 32) : x.cells.length = 34 := by simp [Fr.Ent.cells, h]

/-- a tree's reader: the bytes, the entries that it has -/
structure Tr (w : World) (R : Nat) (A : Option Addr) (L C : Nat) (l : List Int) (at' : Nat) (f : Int) (B : Nat) (Ae : Option Addr) (ne Ce : Nat) (es : List Fr.Ent) : Prop where
  rdr : Rdr w R 4 96 A L C l at' f (fun _ => .slice Ae ne Ce)
  own : w.ownsRow B 87 34 (.slice Ae ne Ce) ne (entsV es)
  hB : R < B
  hBs : B ≤ w.heap.size
  ids : ∀ x ∈ es, x.id.length = 32
  hAB : ∀ x, A = some x → 0 < L → x.block < B
  hne : es.length = ne

/-- what one entry's bytes say -/
structure Rd1 where
  pos : Nat
  f : Int
  k : Int
  nm : ByteArray
  id : List Int
def rdM (l : List Int) (at' L : Nat) : Nat := (nv (tkL (tkF 0 at' L 1) l (tkA 0 at' L 1) L 1)).toNat
def rd1 (l : List Int) (at' L : Nat) : Rd1 :=
  ⟨tkA (tkF (tkF (tkF 0 at' L 1) (tkA 0 at' L 1) L 1) (tkA (tkF 0 at' L 1) (tkA 0 at' L 1) L 1) L (rdM l at' L)) (tkA (tkF (tkF 0 at' L 1) (tkA 0 at' L 1) L 1) (tkA (tkF 0 at' L 1) (tkA 0 at' L 1) L 1) L (rdM l at' L)) L 32,
   tkF (tkF (tkF (tkF 0 at' L 1) (tkA 0 at' L 1) L 1) (tkA (tkF 0 at' L 1) (tkA 0 at' L 1) L 1) L (rdM l at' L)) (tkA (tkF (tkF 0 at' L 1) (tkA 0 at' L 1) L 1) (tkA (tkF 0 at' L 1) (tkA 0 at' L 1) L 1) L (rdM l at' L)) L 32,
   nv (tkL 0 l at' L 1),
   sb (tkL (tkF (tkF 0 at' L 1) (tkA 0 at' L 1) L 1) l (tkA (tkF 0 at' L 1) (tkA 0 at' L 1) L 1) L (rdM l at' L)),
   idv (tkL (tkF (tkF (tkF 0 at' L 1) (tkA 0 at' L 1) L 1) (tkA (tkF 0 at' L 1) (tkA 0 at' L 1) L 1) L (rdM l at' L)) l (tkA (tkF (tkF 0 at' L 1) (tkA 0 at' L 1) L 1) (tkA (tkF 0 at' L 1) (tkA 0 at' L 1) L 1) L (rdM l at' L)) L 32)⟩
/-- what failed behind one more entry -/
def rdF (l : List Int) (at' L cnt : Nat) (prev : Option ByteArray) : Int :=
  fl (if cnt = 512 then fl (rd1 l at' L).f 4 else (rd1 l at' L).f) (ce (rd1 l at' L).k (rd1 l at' L).nm (rd1 l at' L).id prev)
/-- the last name -/
def lastN (es : List Fr.Ent) : Option ByteArray := es.getLast?.map Fr.Ent.name

set_option maxRecDepth 100000 in
theorem zeroE (w : World) : (zeroValue 87).run Try.prog w = .ok (.agg (ent ByteArray.empty 0 (List.replicate 32 0)).toArray) w := by rfl

theorem tkL_one (f : Int) (l : List Int) (at' L : Nat) (hl : l.length = L) (hb : ∀ i, i < L → 0 ≤ l.getD i 0 ∧ l.getD i 0 ≤ 255) : 0 ≤ nv (tkL f l at' L 1) ∧ nv (tkL f l at' L 1) ≤ 255 := by
  unfold tkL
  split
  · have h2 := nv_bound 1 ((l.drop at').take 1) (by rw [List.length_take]; omega) (fun i hi => by
      rw [List.length_take, List.length_drop] at hi
      rw [take_getD _ _ _ (by omega)]
      have := hb (at' + i) (by omega)
      simpa [List.getD] using this)
    have : (256 : Int) ^ 1 = 256 := by decide
    omega
  · exact ⟨by decide, by decide⟩

/-- the entry's own block while it is read -/
structure Xr (w W : World) (R X : Nat) (F : Nat → Value) : Prop where
  row : W.rowIs X 87 34 F
  hRX : R < X
  hX : w.heap.size ≤ X
  gr : w.grownBy W (some R)
theorem Xr.grown {w W W' : World} {R X : Nat} {F : Nat → Value} (h : Xr w W R X F) (hg : W.grownBy W' (some R)) : Xr w W' R X F :=
  ⟨h.row.of_block (hg.block X h.row.lt (fun e => by have := Option.some.inj e; have := h.hRX; omega)), h.hRX, h.hX, grown_trans h.gr hg⟩
theorem Xr.set {w W : World} {R X : Nat} {F : Nat → Value} (h : Xr w W R X F) (i : Nat) (v : Value) : Xr w (W.setCell ⟨X, i, none⟩ v) R X (fun j => if j = i then v else F j) :=
  ⟨h.row.set i v, h.hRX, h.hX, ⟨h.gr.os, h.gr.tape, h.gr.output, by simpa [World.setCell] using h.gr.size, fun k hk hne => (Below.heap_setCell W ⟨X, i, none⟩ v k (by have := h.hX; show k ≠ X; omega)).trans (h.gr.block k hk hne)⟩⟩
theorem Xr.drewN {w W : World} {R X : Nat} {F : Nat → Value} (h : Xr w W R X F) (n : Nat) : Xr w (W.drewN n) R X F :=
  ⟨h.row, h.hRX, h.hX, ⟨h.gr.os, h.gr.tape, h.gr.output, h.gr.size, h.gr.block⟩⟩
/-- the tree's reader stays where elsewhere is written -/
theorem Rdr.setX {w : World} {R N : Nat} {t : TypeId} {A : Option Addr} {L C : Nat} {l : List Int} {at' : Nat} {f : Int} {E : Nat → Value} (h : Rdr w R N t A L C l at' f E) (X i : Nat) (v : Value) (hX : X ≠ R) (ha : ∀ x, A = some x → 0 < L → x.block ≠ X) : Rdr (w.setCell ⟨X, i, none⟩ v) R N t A L C l at' f E :=
  ⟨h.row.setOther (a := ⟨X, i, none⟩) (fun e => hX e.symm) v, h.hN, h.rd.grown (grown_set w X i v) ha, h.apart, h.le⟩
theorem own_grown {w w' : World} {B e sz n : Nat} {v : Value} {xs : List Value} {k : Nat} (h : w.ownsRow B e sz v n xs) (hg : w.grownBy w' (some k)) (hk : v.ownBlock ≠ some k) : w'.ownsRow B e sz v n xs := by
  refine h.kept hg ?_
  cases hv : v.ownBlock with
  | none => exact .inl rfl
  | some j => exact .inr fun e => hk (by rw [hv]; exact e)
theorem grown_cells_of {a : World} {X : Nat} : ∀ (vs : List Value) (o : Nat) (w : World), a.grownBy w (some X) → a.grownBy (w.setCells X o vs) (some X)
  | [], _, _, h => h
  | v :: vs, o, w, h => grown_cells_of vs (o + 1) _ (grown_trans h (grown_set w X o v))
theorem grown_cells (w : World) (X : Nat) (vs : List Value) (o : Nat) : w.grownBy (w.setCells X o vs) (some X) := grown_cells_of vs o w (World.grownBy.refl w (some X))
theorem info87 : (Try.prog.info? 87).map (fun i => (i.zero, i.size, i.bytes)) = some (some (.agg (ent ByteArray.empty 0 (List.replicate 32 0)).toArray), 34, 56) := by kernel_rfl
theorem ent_one (x : Fr.Ent) : ∀ u ∈ x.cells, u.oneCell' = true := by
  intro u hu
  rcases List.mem_cons.1 hu with rfl | hu
  · rfl
  · rcases List.mem_cons.1 hu with rfl | hu
    · rfl
    · obtain ⟨z, -, rfl⟩ := List.mem_map.1 hu
      rfl
/-- one entry more behind a row of one's own -/
theorem step_append_ent (w : World) {ops : Array Oper} {o : Oper} {a : Act} {K : Act → World → Prop} {Q : Exit → Act → World → Prop} {E : Prop} (hgd : o.guard = none) (s x : Operand)
    (ho : o.op = .call { callee := .builtin .append, args := #[s, x], argTypes := #[22, 22] })
    (B : Nat) (v : Value) (n : Nat) (d : List Fr.Ent) (hs : a.eval s = v) (hown : w.ownsRow B 87 34 v n (entsV d))
    (g : Nat) (y : Fr.Ent) (hx : a.eval x = .slice (some ⟨g, 0, none⟩) 1 1) (hy : ∀ j u, y.cells[j]? = some u → w.cell? ((⟨g, 0, none⟩ : Addr).add j) = some u) (hyl : y.cells.length = 34)
    (hn : n ≤ 1000000) (hbase : B ≤ w.heap.size)
    (h : ∀ A' C' w', w'.ownsRow B 87 34 (.slice A' (n + 1) C') (n + 1) (entsV (d ++ [y])) → w.grownBy w' v.ownBlock → K (a.put o.dst (.slice A' (n + 1) C')) w') :
    if Region.wanted o (yielded ops a.tmps) = true then Oper.wp Try.prog o a w K Q else E := by
  have hw : Region.wanted o (yielded ops a.tmps) = true := by simp [Region.wanted, hgd]
  rw [if_pos hw]
  obtain ⟨i0, hi, hz0, hz1, hz2⟩ := info_parts info87
  obtain ⟨v', w', hr, h2, h3, h4⟩ := run_append_own (P := Try.prog) w B 22 o.type 87 i0 (.agg (ent ByteArray.empty 0 (List.replicate 32 0)).toArray) 34 56 Try.underlying22 hi hz0 hz1 hz2 (by simp [Value.cells, ent, bv]) (by decide) v n (entsV d) hown ⟨g, 0, none⟩ 1 1 y.cells (by rw [hyl]) hy (ent_one y) (by unfold maxLen; omega) (by omega) hbase
  obtain ⟨A', C', rfl⟩ := own_slice' h2
  unfold Oper.wp execOp
  simp only [ho, resolve, invoke, builtin, Sem.run_bind, Sem.run_pure, Result.andThen_ok, List.map_toArray, List.map_cons, List.map_nil, hs, hx, hr]
  exact h A' C' w' (by rw [show entsV (d ++ [y]) = entsV d ++ y.cells from by simp [entsV]]; exact h2) h3
theorem new_ent (w : World) (x : Fr.Ent) (t : TypeId) : ∀ j u, x.cells[j]? = some u → (w.alloc (.cells x.cells.toArray t)).cell? ((⟨w.heap.size, 0, none⟩ : Addr).add j) = some u := by
  intro j u hj
  rw [show Addr.add ⟨w.heap.size, 0, none⟩ j = (⟨w.heap.size, j, none⟩ : Addr) from by unfold Addr.add; split <;> simp_all, World.cell?_alloc_new]
  simpa using hj
theorem range_grown {w w' : World} {R X o : Nat} {cs : List Value} (h : w.rangeAt X o cs) (hg : w.grownBy w' (some R)) (hX : X < w.heap.size) (hne : X ≠ R) : w'.rangeAt X o cs := fun j v hj => by
  rw [cell_grown hg (p := ⟨X, o + j, none⟩) hX hne]
  exact h j v hj
/-- behind whatever turned nothing below B -/
theorem Rdr.belowB {w w' : World} {R N : Nat} {t : TypeId} {A : Option Addr} {L C : Nat} {l : List Int} {at' : Nat} {f : Int} {E : Nat → Value} {B : Nat} (h : Rdr w R N t A L C l at' f E) (hb : Below B w w') (hR : R < B) (hA : ∀ x, A = some x → 0 < L → x.block < B) : Rdr w' R N t A L C l at' f E :=
  ⟨h.row.of_block (hb.block R hR), h.hN, ⟨h.rd.len, h.rd.cap, h.rd.max, h.rd.big, h.rd.none, h.rd.byte, fun x hx => by
    obtain ⟨h1, h2⟩ := h.rd.cell x hx
    refine ⟨fun h0 => Nat.lt_of_lt_of_le (h1 h0) hb.size, fun i hi => ?_⟩
    have e : (x.add i).block = x.block := add_block x i
    rw [hb.cell (p := x.add i) (by rw [e]; exact hA x hx (by omega))]
    exact h2 i hi⟩, h.apart, h.le⟩
/-- the entries' cell is laid anew -/
theorem Rdr.setE {w : World} {R : Nat} {t : TypeId} {A : Option Addr} {L C : Nat} {l : List Int} {at' : Nat} {f : Int} {E : Nat → Value} (h : Rdr w R 4 t A L C l at' f E) (v : Value) : Rdr (w.setCell ⟨R, 3, none⟩ v) R 4 t A L C l at' f (fun _ => v) :=
  ⟨(h.row.set 3 v).congr (fun j hj => by
    match j, hj with
    | 0, _ => rfl
    | 1, _ => rfl
    | 2, _ => rfl
    | 3, _ => rfl), h.hN, h.rd.grown (grown_set w R 3 v) h.apart, h.apart, h.le⟩
/-- the last entry's name, in its cell -/
theorem ahd_of {w : World} {B : Nat} {Ae : Option Addr} {ne Ce : Nat} {es : List Fr.Ent} (h : w.ownsRow B 87 34 (.slice Ae ne Ce) ne (entsV es)) (hid : ∀ x ∈ es, x.id.length = 32) (hn : ne ≤ 1000000) (he : es.length = ne) : Ahd w Ae ne Ce (lastN es) := by
  rcases h.2 with ⟨hv, hz⟩ | ⟨g, cap, cur, hv, hb, hg, hnc, hcm, hcs, htake⟩
  · simp only [Value.slice.injEq] at hv
    obtain ⟨rfl, -, rfl⟩ := hv
    subst hz
    have : es = [] := List.eq_nil_of_length_eq_zero he
    subst this
    exact ⟨Nat.le_refl _, by omega, by omega, fun _ => rfl, fun h => absurd h (by omega)⟩
  · simp only [Value.slice.injEq, true_and] at hv
    obtain ⟨rfl, rfl⟩ := hv
    refine ⟨hnc, hcm, hn, fun h0 => ?_, fun h0 => ?_⟩
    · have : es = [] := List.eq_nil_of_length_eq_zero (by omega)
      subst this; rfl
    · rcases List.eq_nil_or_concat es with rfl | ⟨m, x, rfl⟩
      · simp at he; omega
      · rw [List.concat_eq_append] at *
        have hml : m.length = ne - 1 := by simp at he; omega
        have hfl : ∀ q : List Fr.Ent, (∀ x ∈ q, x.id.length = 32) → (entsV q).length = q.length * 34 := by
          intro q
          induction q with
          | nil => intro _; rfl
          | cons y q ih =>
            intro hq
            have h1 := ih (fun z hz => hq z (List.mem_cons_of_mem _ hz))
            have h2 := ent_len y (hq y (List.mem_cons_self ..))
            simp only [entsV, List.flatMap_cons, List.length_append, List.length_cons] at *
            omega
        have hl2 := hfl m (fun z hz => hid z (by simp [hz]))
        refine ⟨g, 0, x.name, rfl, by simp [lastN], ?_, ?_⟩
        · rw [Nat.zero_add, World.ownsRow.cellAt h _ (by omega)]
          rw [show entsV (m ++ [x]) = entsV m ++ x.cells from by simp [entsV], List.getElem?_append_right (by rw [hl2, hml]; omega), hl2, hml, Nat.sub_self]
          rfl
        · rcases Nat.lt_or_ge g w.heap.size with h | h
          · exact h
          · rw [Array.getElem?_eq_none h] at hg; simp at hg
theorem below_of_grown {w W : World} {R : Nat} (h : w.grownBy W (some R)) (hR : R < w.heap.size) : Below R w W :=
  (Below.refl R w).grown h (Nat.le_of_lt hR) (fun k hk => by have := Option.some.inj hk; omega)
theorem fold_data (l : List Int) : ∀ r : ByteArray, (l.foldl (fun r n => r.push (UInt8.ofNat n.toNat)) r).data.toList = r.data.toList ++ l.map (fun n => UInt8.ofNat n.toNat) := by
  induction l with
  | nil => intro r; simp
  | cons x l ih =>
    intro r
    rw [List.foldl_cons, ih]
    simp [ByteArray.push]
theorem sb_data (l : List Int) : (sb l).data.toList = l.map (fun n => UInt8.ofNat n.toNat) := by
  rw [sb, fold_data]; simp
theorem sb_size (l : List Int) : (sb l).size = l.length := by
  have h := congrArg List.length (sb_data l)
  simpa using h
/-- what one entry's bytes say, by its parts -/
theorem rd1_eq {l : List Int} {at' L m : Nat} {F2 F3 F4 k : Int} {A2 A3 A4 : Nat} {nm : ByteArray} {ids : List Int} (hm : rdM l at' L = m) (hF2 : F2 = tkF (tkF 0 at' L 1) (tkA 0 at' L 1) L 1) (hA2 : A2 = tkA (tkF 0 at' L 1) (tkA 0 at' L 1) L 1) (hk : k = nv (tkL 0 l at' L 1)) (hn : nm = sb (tkL F2 l A2 L m)) (hF3 : F3 = tkF F2 A2 L m) (hA3 : A3 = tkA F2 A2 L m) (hi : ids = idv (tkL F3 l A3 L 32)) (hF4 : F4 = tkF F3 A3 L 32) (hA4 : A4 = tkA F3 A3 L 32) : rd1 l at' L = ⟨A4, F4, k, nm, ids⟩ := by
  subst hm hF2 hA2 hk hn hF3 hA3 hi hF4 hA4
  rfl
theorem rdF_eq {l : List Int} {at' L cnt pos : Nat} {F4 F5 F6 k c : Int} {nm : ByteArray} {ids : List Int} {prev : Option ByteArray} (h : rd1 l at' L = ⟨pos, F4, k, nm, ids⟩) (h5 : F5 = if cnt = 512 then fl F4 4 else F4) (hc : c = ce k nm ids prev) (h6 : F6 = fl F5 c) : rdF l at' L cnt prev = F6 := by
  unfold rdF
  rw [h]
  subst h5 hc h6
  rfl
theorem range_grownO {w w' : World} {X o : Nat} {b : Option Nat} {cs : List Value} (h : w.rangeAt X o cs) (hg : w.grownBy w' b) (hX : X < w.heap.size) (hne : b ≠ some X) : w'.rangeAt X o cs := fun j v hj =>
  (World.cell?_of_block (a := ⟨X, o + j, none⟩) (hg.block X hX (fun e => hne e.symm))).trans (h j v hj)
/-- the entry stands behind the others -/
theorem ent_done {R : Nat} {A : Option Addr} {L C : Nat} {l : List Int} {at' : Nat} {B : Nat} {Ae : Option Addr} {ne Ce : Nat} {es : List Fr.Ent} {w : World} (h : Tr w R A L C l at' 0 B Ae ne Ce es) {wE : World} {pos : Nat} {f : Int} {x : Fr.Ent} {A' : Option Addr} {C' : Nat} (dR : Rdr wE R 4 96 A L C l pos f (fun _ => .slice Ae ne Ce)) (hoE : wE.ownsRow B 87 34 (.slice A' (ne + 1) C') (ne + 1) (entsV (es ++ [x]))) (hx : x.id.length = 32) (hb : Below R w wE) :
    Tr (wE.setCell ⟨R, 3, none⟩ (.slice A' (ne + 1 : Nat) C')) R A L C l pos f B A' (ne + 1) C' (es ++ [x]) ∧ Below R w (wE.setCell ⟨R, 3, none⟩ (.slice A' (ne + 1 : Nat) C')) := by
  have hRB := h.hB
  refine ⟨⟨dR.setE _, own_grown hoE (grown_set wE R 3 _) (fun e => by have := (hoE.lt R e).1; omega), hRB, ?_, ?_, h.hAB, ?_⟩, hb.setCell (p := ⟨R, 3, none⟩) (Nat.le_refl _) _⟩
  · have h1 := h.hBs
    have h2 := hb.size
    show B ≤ (World.setCell _ _ _).heap.size
    have : wE.heap.size ≤ (wE.setCell ⟨R, 3, none⟩ (.slice A' (ne + 1 : Nat) C')).heap.size := (grown_set wE R 3 _).size
    omega
  · intro y hy
    rcases List.mem_append.1 hy with hy | hy
    · exact h.ids y hy
    · rw [List.mem_singleton.1 hy]; exact hx
  · simp [h.hne]
/-- a row of one entry is made -/
theorem step_build_ent (w : World) {ops : Array Oper} {o : Oper} {a : Act} {K : Act → World → Prop} {Q : Exit → Act → World → Prop} {E : Prop} (hgd : o.guard = none) (x : Operand)
    (ho : o.op = .buildSlice 22 1 #[(0, x)]) (cs : List Value) (hx : a.eval x = .agg cs.toArray) (hl : cs.length = 34)
    (h : K (a.put o.dst (.slice (some ⟨w.heap.size, 0, none⟩) 1 1)) (w.alloc (.cells cs.toArray 87))) :
    if Region.wanted o (yielded ops a.tmps) = true then Oper.wp Try.prog o a w K Q else E := by
  have hw : Region.wanted o (yielded ops a.tmps) = true := by simp [Region.wanted, hgd]
  rw [if_pos hw]
  obtain ⟨i0, hi, hz0, hz1, hz2⟩ := info_parts info87
  refine wp_buildSlice 22 87 1 #[(0, x)] ho cs.toArray i0 _ Try.underlying22 hi hz0 (by rw [hz1]; decide) (by rw [hz1]; decide) ?_ h
  rw [hz1]
  have hz34 : (Value.agg (ent ByteArray.empty 0 (List.replicate 32 0)).toArray).cells.size = 34 := by simp [Value.cells, ent, bv]
  have := Great.fill_whole (s := 34) (by decide) [Value.agg cs.toArray] ((Array.range (1 * 34)).map ((Value.agg (ent ByteArray.empty 0 (List.replicate 32 0)).toArray).cells[· % (Value.agg (ent ByteArray.empty 0 (List.replicate 32 0)).toArray).cells.size]!)) (by simp [Value.cells, hl]) (by simp)
  simpa [hx, Value.cells] using this
end Go.Proofs.Ytmcmapgllaopmaa.Cd
