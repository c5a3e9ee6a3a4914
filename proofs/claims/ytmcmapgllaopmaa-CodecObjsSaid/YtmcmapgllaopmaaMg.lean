/- Texts of one's own, merged: CdTreeN, CdRTreeN, CdHas, CdSticky, CdSame, CdEnts. -/
import Derived.Test.YtmcmapgllaopmaaMb
import Derived.Test.YtmcmapgllaopmaaMf

section
/- codec.EncodeTree at any entries. -/
namespace Go.Proofs.Ytmcmapgllaopmaa.Cd
open Go.RowKit
set_option linter.unusedVariables false

/-- a row of entries that is read -/
structure RdE (w : World) (A : Option Addr) (n C : Nat) (es : List Fr.Ent) : Prop where
  len : es.length = n
  cap : n ≤ C
  max : C ≤ 9223372036854775807
  big : n ≤ 1000000
  ok : ∀ x ∈ es, x.id.length = 32 ∧ x.name.size ≤ 140737488351232
  cell : 0 < n → ∃ g o, A = some ⟨g, o, Option.none⟩ ∧ g < w.heap.size ∧ ∀ i, i < n → w.rangeAt g (o + i * 34) (es.getD i default).cells
theorem RdE.below {w w' : World} {A : Option Addr} {n C : Nat} {es : List Fr.Ent} (h : RdE w A n C es) (hb : Below w.heap.size w w') : RdE w' A n C es :=
  ⟨h.len, h.cap, h.max, h.big, h.ok, fun h0 => by
    obtain ⟨g, o, h1, h2, h3⟩ := h.cell h0
    exact ⟨g, o, h1, Nat.lt_of_lt_of_le h2 hb.size, fun i hi => range_below hb (h3 i hi) h2⟩⟩
theorem RdE.belowB {w w' : World} {A : Option Addr} {n C B : Nat} {es : List Fr.Ent} (h : RdE w A n C es) (hb : Below B w w') (hA : ∀ x, A = some x → 0 < n → x.block < B) : RdE w' A n C es :=
  ⟨h.len, h.cap, h.max, h.big, h.ok, fun h0 => by
    obtain ⟨g, o, h1, h2, h3⟩ := h.cell h0
    have hg := hA _ h1 h0
    exact ⟨g, o, h1, Nat.lt_of_lt_of_le h2 hb.size, fun i hi => range_below hb (h3 i hi) hg⟩⟩
theorem getDE_mem {es : List Fr.Ent} {k : Nat} (h : k < es.length) : es.getD k default ∈ es := by
  rw [List.getD_eq_getElem?_getD, List.getElem?_eq_getElem h]; exact List.getElem_mem h
theorem take_snoc (es : List Fr.Ent) (k : Nat) (hk : k < es.length) : es.take (k + 1) = es.take k ++ [es.getD k default] := by
  rw [List.take_succ_eq_append_getElem hk]
  congr 2
  simp [List.getD, hk]
theorem lastN_take (es : List Fr.Ent) (k : Nat) (hk : k < es.length) : lastN (es.take (k + 1)) = some (es.getD k default).name := by
  rw [take_snoc es k hk, lastN, List.getLast?_concat]
  rfl
/-- what lies ahead of the k-th -/
theorem RdE.ahd {w : World} {A : Option Addr} {n C : Nat} {es : List Fr.Ent} (h : RdE w A n C es) (k : Nat) (hk : k < n) : Ahd w A k C (lastN (es.take k)) := by
  have hc := h.cap
  have hbg := h.big
  have hl := h.len
  refine ⟨by omega, h.max, by omega, fun h0 => by subst h0; rfl, fun h0 => ?_⟩
  obtain ⟨g, o, h1, h2, h3⟩ := h.cell (by omega)
  obtain ⟨j, rfl⟩ : ∃ j, k = j + 1 := ⟨k - 1, by omega⟩
  refine ⟨g, o, (es.getD j default).name, h1, ?_, ?_, h2⟩
  · exact lastN_take es j (by omega)
  · have := h3 j (by omega) 0 _ rfl
    rw [Nat.add_zero] at this
    exact this

theorem own_drew {w : World} {B e sz n : Nat} {v : Value} {xs : List Value} (h : w.ownsRow B e sz v n xs) : w.drew.ownsRow B e sz v n xs := h
/-- why some entries may not stand behind one -/
def eF : List Fr.Ent → Option ByteArray → Int
  | [], _ => 0
  | x :: r, prev => if ce x.kind x.name x.id prev = 0 then eF r (some x.name) else ce x.kind x.name x.id prev
/-- a text's bytes -/
def sv (s : ByteArray) : List Int := s.data.toList.map (fun b => (b.toNat : Int))
theorem sv_len (s : ByteArray) : (sv s).length = s.size := by simp [sv]
theorem sv_cells (s : ByteArray) : bv (sv s) = Lib.strCells s := by simp [bv, sv, Lib.strCells]
/-- an entry's bytes -/
def eB1 (x : Fr.Ent) : List Int := x.kind :: (x.name.size : Int) :: (sv x.name ++ x.id)
def eB (es : List Fr.Ent) : List Int := es.flatMap eB1
def eE (es : List Fr.Ent) : Int := if 512 < es.length then 4 else eF es none

/-- what EncodeTree hands back -/
def EtRet (es : List Fr.Ent) (w : World) (e : Ending) (w' : World) : Prop :=
  Below w.heap.size w w' ∧
  ((eE es ≠ 0 ∧ e = .returned (.tuple #[.slice none 0 0, .int .i64 (eE es)])) ∨
   (eE es = 0 ∧ ∃ v, e = .returned (.tuple #[v, .int .i64 0]) ∧ w'.ownsRow w.heap.size 5 1 v (eB es).length (bv (eB es))))

theorem eF_step (es : List Fr.Ent) (k : Nat) (hk : k < es.length) : eF (es.drop k) (lastN (es.take k)) = if ce (es.getD k default).kind (es.getD k default).name (es.getD k default).id (lastN (es.take k)) = 0 then eF (es.drop (k + 1)) (lastN (es.take (k + 1))) else ce (es.getD k default).kind (es.getD k default).name (es.getD k default).id (lastN (es.take k)) := by
  have hx : es.getD k default = es[k] := by simp [List.getD, hk]
  rw [List.drop_eq_getElem_cons hk, eF, ← hx, lastN_take es k hk]
theorem eB_step (es : List Fr.Ent) (k : Nat) (hk : k < es.length) : eB (es.take (k + 1)) = eB (es.take k) ++ eB1 (es.getD k default) := by
  unfold eB
  rw [take_snoc es k hk, List.flatMap_append]
  simp only [List.flatMap_cons, List.flatMap_nil, List.append_nil]
theorem ce_zero {k : Int} {nm : ByteArray} {ids : List Int} {prev : Option ByteArray} (h : ce k nm ids prev = 0) : 1 ≤ k ∧ k ≤ 4 ∧ NmOk nm := by
  unfold ce at h
  by_cases h1 : k < 1 ∨ 4 < k
  · rw [if_pos h1] at h; exact absurd h (by decide)
  · rw [if_neg h1] at h
    by_cases h2 : ¬ NmOk nm
    · rw [if_pos h2] at h; exact absurd h (by decide)
    · exact ⟨by omega, by omega, Classical.not_not.1 h2⟩

set_option maxRecDepth 100000 in
set_option maxHeartbeats 1000000 in
theorem encodeTree_any (A : Option Addr) (n C : Nat) (es : List Fr.Ent) (w : World) (h : RdE w A n C es) :
    Calls Try.prog 12 #[.slice A n C] w (EtRet es w) := by
  obtain ⟨i0, hi, hz0, hz1, hz2⟩ := info_parts info5
  have hzE := zeroE
  have hl := h.len
  have hcap := h.cap
  have hmax := h.max
  have hbig := h.big
  have HRd := Lib.hid h
  have HLt : Hid (∀ x, A = some x → 0 < n → x.block < w.heap.size) := Lib.hid (fun x hx h0 => by
    obtain ⟨g, o, h1, h2, -⟩ := h.cell h0
    rw [h1] at hx
    obtain rfl := Option.some.inj hx
    exact h2)
  have HB0 := Lib.hid (Below.refl w.heap.size w)
  clear h
  by_cases hgt : 512 < n
  · have HE : Hid (eE es = 4) := Lib.hid (by unfold eE; rw [if_pos (by omega)])
    have hd : decide ((512 : Int) < (n : Int)) = true := by simp; omega
    go_enter Try.func12, Try.ntmps12
    go_wp2_with fail
    go_ret2
    exact ⟨HB0.out, .inl ⟨by rw [HE.out]; decide, by rw [HE.out]; rfl⟩⟩
  · have HE : Hid (eE es = eF es none) := Lib.hid (by unfold eE; rw [if_neg (by omega)])
    have hd : decide ((512 : Int) < (n : Int)) = false := by simp; omega
    generalize hZE : (ent ByteArray.empty 0 (List.replicate 32 0)).toArray = ZE at *
    have hZs : ZE.size = 34 := by rw [← hZE, List.size_toArray, ent_length _ _ _ (by simp)]
    have HZs := Lib.hid hZs
    clear hZE hZs
    go_enter Try.func12, Try.ntmps12
    go_wp2_with fail
    go_loopw [4, 13] (fun b i wr => ∃ (k : Nat), i = .int .i64 k ∧ k ≤ n ∧ Hid (eF (es.drop k) (lastN (es.take k)) = eF es none) ∧ Hid (wr.ownsRow w.heap.size 5 1 b (eB (es.take k)).length (bv (eB (es.take k)))) ∧ (eB (es.take k)).length ≤ k * 100 ∧ Hid (RdE wr A n C es) ∧ Hid (Below w.heap.size w wr)) (fun _ i _ => n - (intOf i).toNat)
    case atStart => exact ⟨0, rfl, Nat.zero_le _, Lib.hid rfl, Lib.hid ⟨rfl, .inl ⟨rfl, rfl⟩⟩, Nat.zero_le _, HRd, HB0⟩
    case round =>
      clear HRd HB0
      obtain ⟨k, rfl, hk, HF, HO, hlen, HRd, HB⟩ := hrel
      by_cases hlt : k < n
      · obtain ⟨g, o, rfl, hgl, hcc⟩ := HRd.out.cell (by omega)
        have HAh := Lib.hid (HRd.out.ahd k hlt)
        have hst := eF_step es k (by omega)
        rw [HF.out] at hst
        have hbs := eB_step es k (by omega)
        have hok := HRd.out.ok _ (getDE_mem (k := k) (by omega))
        obtain ⟨nm, hnm⟩ : ∃ nm, nm = (es.getD k default).name := ⟨_, rfl⟩
        obtain ⟨kd, hK⟩ : ∃ kd, kd = (es.getD k default).kind := ⟨_, rfl⟩
        obtain ⟨ids, hids⟩ : ∃ ids, ids = (es.getD k default).id := ⟨_, rfl⟩
        obtain ⟨prev, hprev⟩ : ∃ prev, prev = lastN (es.take k) := ⟨_, rfl⟩
        have HXc : Hid (wr.rangeAt g (o + k * 34) (ent nm kd ids)) := Lib.hid (by rw [hnm, hK, hids]; exact hcc k hlt)
        have he1 : eB1 (es.getD k default) = kd :: (nm.size : Int) :: (sv nm ++ ids) := by rw [hnm, hK, hids]; rfl
        rw [he1] at hbs
        rw [← hnm, ← hids] at hok
        rw [← hnm, ← hK, ← hids, ← hprev] at hst
        rw [← hprev] at HAh
        have HIl := Lib.hid hok.1
        have Hsz : Hid (nm.size ≤ 140737488355327) := Lib.hid (Nat.le_trans hok.2 (by decide))
        have HES : Hid ((Try.prog.info? 87).map (·.size) = some (ent nm kd ids).length) := Lib.hid (by rw [ent_length nm kd ids HIl.out]; kernel_rfl)
        have HBs := Lib.hid hbs
        have HSt := Lib.hid hst
        have hxr := row_new wr ZE 87
        rw [HZs.out] at hxr
        have HTh := Lib.hid (en_there hxr 0 (ent nm kd ids).toArray.size (by rw [List.size_toArray, ent_length nm kd ids HIl.out]; decide))
        have HSz : Hid ((Try.prog.info? 87).map (·.size) = some (ent nm kd ids).toArray.size) := Lib.hid (by rw [List.size_toArray]; exact HES.out)
        have HOne := Lib.hid (all_oneCell_toArray (ent_one' nm kd ids))
        have HX4 := Lib.hid (en_start hxr nm kd ids HIl.out)
        have hb4 := below_cells (Nat.le_refl wr.heap.size) (ent nm kd ids) 0 _ ((Below.refl wr.heap.size wr).alloc (Nat.le_refl _) (.cells ZE 87))
        have hwr : w.heap.size ≤ wr.heap.size := HB.out.size
        have HRd4 := Lib.hid (HRd.out.below hb4)
        have HO4 := Lib.hid (own_keep HO.out hb4)
        have HB4 := Lib.hid (HB.out.trans (hb4.mono hwr))
        have HAh4 : Hid (Ahd ((wr.alloc (.cells ZE 87)).setCells wr.heap.size 0 (ent nm kd ids)) (some ⟨g, o, none⟩) k C prev) := Lib.hid (by
          have := HRd4.out.ahd k hlt
          rw [← hprev] at this
          exact this)
        have hk0 : (0 : Int) ≤ (k : Int) := by omega
        have hk1 : (k : Int) < (n : Int) := by omega
        clear hxr hb4 HRd HO HB HAh hst hbs he1 hok hcc hnm hK hids hprev
        go_upto_region 7 with (first
          | (refine wpList_load_mid rfl _ _ rfl g (o + k * 34) rfl (ent nm kd ids) _ HXc.out Try.underlying87 rfl HES.out ?_)
          | (refine wpList_store_mid rfl _ _ _ rfl wr.heap.size 0 (ent nm kd ids).toArray rfl rfl HTh.out HSz.out HOne.out ?_))
        change Code.wp _ _ _ _ ((wr.alloc (.cells ZE 87)).setCells wr.heap.size 0 (ent nm kd ids))
        have hXs4 : wr.heap.size < ((wr.alloc (.cells ZE 87)).setCells wr.heap.size 0 (ent nm kd ids)).heap.size := HX4.out.lt
        clear HTh HSz HOne HXc hgl
        generalize (wr.alloc (.cells ZE 87)).setCells wr.heap.size 0 (ent nm kd ids) = w4 at *
        generalize wr.heap.size = X at *
        have dX := Lib.hid ((World.rangeAt_drew _ _ _ _).2 (en_range HX4.out HIl.out))
        have hXs : X < w4.drew.heap.size := hXs4
        have HAh : Hid (Ahd w4.drew (some ⟨g, o, none⟩) k C prev) := Lib.hid ⟨HAh4.out.cap, HAh4.out.max, HAh4.out.big, HAh4.out.none, HAh4.out.last⟩
        have HRd5 : Hid (RdE w4.drew (some ⟨g, o, none⟩) n C es) := Lib.hid ⟨HRd4.out.len, HRd4.out.cap, HRd4.out.max, HRd4.out.big, HRd4.out.ok, HRd4.out.cell⟩
        have HO5 := Lib.hid (own_drew HO4.out)
        have HB5 := Lib.hid HB4.out.drew
        have dXr := Lib.hid (World.rowIs.drew HX4.out)
        have dE := HES.out
        have hkC : k ≤ C := by omega
        have hkC2 : (k : Int) ≤ (C : Int) := by omega
        clear HAh4 HRd4 HO4 HB4 HX4 hXs4
        refine wp_region_noPanic ?_
        refine wp_region_held_drew (S := (fun wS => wS.rangeAt X 0 (ent nm kd ids))) (by kernel_rfl) ?_ (fun hHeld => ?_)
        · ((try dsimp only); exact dX.out)
        refine' wpAnyH_take (i := 0) (oi := { dst := some 18, op := Op.load 87 (Operand.tmp 6), type := 87, pos := "tree.go:12", after := #[], guard := none }) (v := _) rfl (by kernel_rfl) (by kernel_rfl) (by kernel_rfl) (fun _ _ _ h => h) (yieldsIf_load_mid (by rfl) _ _ rfl _ _ rfl (ent nm kd ids) _ (fun w hSw => hSw) Try.underlying87 rfl HES.out) (by assumption) ?_
        (try simp only [Act.put, List.setIfInBounds_toArray, List.set_cons_zero, List.set_cons_succ])
        refine wpAnyH_take (i := 1) (oi := { dst := some 19, op := Op.move (Operand.tmp 0), type := 22, pos := "tree.go:12", after := #[], guard := none }) (v := ?_) rfl (by kernel_rfl) (by kernel_rfl) (by kernel_rfl) (fun _ _ _ h => h) (Or.inl ⟨by rfl, ?_⟩) (by assumption) ?_
        rotate_left 1
        · ((intro w hSw; (try dsimp only at hSw); go_simp) <;> with_reducible rfl)
        (try simp only [Act.put, List.setIfInBounds_toArray, List.set_cons_zero, List.set_cons_succ])
        refine wpAnyH_take (i := 2) (oi := { dst := some 20, op := Op.move (Operand.tmp 5), type := 3, pos := "tree.go:12", after := #[], guard := none }) (v := ?_) rfl (by kernel_rfl) (by kernel_rfl) (by kernel_rfl) (fun _ _ _ h => h) (Or.inl ⟨by rfl, ?_⟩) (by assumption) ?_
        rotate_left 1
        · ((intro w hSw; (try dsimp only at hSw); go_simp) <;> with_reducible rfl)
        (try simp only [Act.put, List.setIfInBounds_toArray, List.set_cons_zero, List.set_cons_succ])
        refine wpAnyH_take (i := 3) (oi := { dst := some 21, op := Op.slice 22 (Operand.tmp 19) none (some (Operand.tmp 20)) none, type := 22, pos := "tree.go:12", after := #[{ on := 1, ground := Ground.data }, { on := 2, ground := Ground.data }], guard := none }) (v := ?_) rfl (by kernel_rfl) (by kernel_rfl) (by kernel_rfl) (fun _ _ _ h => h) (Or.inl ⟨by rfl, ?_⟩) (by assumption) ?_
        rotate_left 1
        · ((intro w hSw; (try dsimp only at hSw); go_simp) <;> with_reducible rfl)
        (try simp only [Act.put, List.setIfInBounds_toArray, List.set_cons_zero, List.set_cons_succ])
        refine wpAnyH_ready (rs := [4]) (by kernel_rfl) (by simp) ?_
        refine AllReadyH.cons (o := { dst := some 22, op := Op.call { callee := Callee.value (Operand.func 40), args := #[Operand.tmp 18, Operand.tmp 21], argTypes := #[87, 22] }, type := 25, pos := "tree.go:12", after := #[{ on := 0, ground := Ground.data }, { on := 3, ground := Ground.data }], guard := none }) rfl (fun K hK => ?_) ?_
        · go_simp
          refine (check_any nm kd ids HIl.out Hsz.out (some ⟨g, o, none⟩) k C prev _ HAh.out).mono ?_
          rintro e w7 ⟨rfl, hb7⟩
          have eX := Lib.hid (range_below hb7 dX.out hXs)
          have eXr := Lib.hid (World.rowIs.of_block dXr.out (hb7.block X hXs))
          have dR := Lib.hid (HRd5.out.below hb7)
          have dO := Lib.hid (own_keep HO5.out hb7)
          have dB := Lib.hid (HB5.out.trans (hb7.mono (by omega)))
          have hXs7 : X < w7.heap.size := Nat.lt_of_lt_of_le hXs hb7.size
          clear dX dXr hb7
          have dX := eX
          have dXr := eXr
          clear eX eXr
          (try go_wp2_with fail)
          refine hK.out _ _ ?_ (fun hNew => ?_)
          · ((try dsimp only); exact dX.out)
          clear hK K hHeld
          have hHeld := hNew
          clear hNew
          (try simp only [Act.put, List.setIfInBounds_toArray, List.set_cons_zero, List.set_cons_succ])
          refine wpAnyH_take (i := 5) (oi := { dst := some 7, op := Op.assign (Operand.tmp 22), type := 25, pos := "tree.go:12", after := #[{ on := 4, ground := Ground.data }, { on := 4, ground := Ground.chain }, { on := 0, ground := Ground.phase }, { on := 1, ground := Ground.phase }, { on := 2, ground := Ground.phase }, { on := 3, ground := Ground.phase }, { on := 4, ground := Ground.phase }], guard := none }) (v := ?_) rfl (by kernel_rfl) (by kernel_rfl) (by kernel_rfl) (fun _ _ _ h => h) (Or.inl ⟨by rfl, ?_⟩) (by assumption) ?_
          rotate_left 1
          · ((intro w hSw; (try dsimp only at hSw); go_simp) <;> with_reducible rfl)
          (try simp only [Act.put, List.setIfInBounds_toArray, List.set_cons_zero, List.set_cons_succ])
          refine wpAnyH_done (by kernel_rfl) ?_ _
          refine NoPanic.normal ?_
          clear hHeld
          obtain ⟨E, hE⟩ : ∃ E, E = ce kd nm ids prev := ⟨_, rfl⟩
          have hst := HSt.out
          rw [← hE] at hst ⊢
          by_cases h0 : E = 0
          · have hE0 : (E != 0) = false := by simp [h0]
            have hcz := ce_zero (hE.symm.trans h0)
            rw [if_pos h0] at hst
            have HF2 := Lib.hid hst.symm
            have hk1' := hcz.1
            have hk4' := hcz.2.1
            have hn40 : nm.size ≤ 40 := by have := hcz.2.2.2.1; omega
            have hwK : IntKind.u8.wrap kd = kd := IntWalk.u8_in _ (by omega)
            obtain ⟨hc0, hc1, hr2⟩ := range_ent dX.out
            have HR2 := Lib.hid hr2
            have HC0 := Lib.hid hc0
            have hszw := dB.out.size
            have hE00 : E = 0 := h0
            clear hE hst hcz hc0 hr2 dX h0 HSt hE00
            go_wp2_with (at_builtin; refine wpList_append_own _ rfl _ _ 23 rfl w.heap.size 5 i0 (.int .u8 0) 1 1 Try.underlying23 hi hz0 hz1 hz2 rfl (by decide) _ _ _ rfl (own_keep dO.out ((Below.refl w7.heap.size w7).alloc (Nat.le_refl _) (.cells (bv [kd]).toArray 5))) ⟨w7.heap.size, 0, none⟩ 1 1 (bv [kd]) rfl rfl ?c1 (bv_one _) ?c3 ?c4 ?c5 ?_)
            case c1 => exact new_cells [kd] w7 _
            case c3 => unfold maxLen; omega
            case c4 => omega
            case c5 => exact Nat.le_trans hszw (al_le w7 _)
            intro v8 w8 ho8 hg8 hnil8
            have hb78 : Below w.heap.size w7 w8 := ((Below.refl w.heap.size w7).alloc hszw (.cells (bv [kd]).toArray 5)).trans (below_grown (Nat.le_trans hszw (al_le w7 _)) (own_keep dO.out ((Below.refl w7.heap.size w7).alloc (Nat.le_refl _) (.cells (bv [kd]).toArray 5))) hg8)
            have hk78 : KeptT w7 w8 := KeptT.trans (al_le w7 _) (KeptT.alloc w7 _) (KeptT.own (own_keep dO.out ((Below.refl w7.heap.size w7).alloc (Nat.le_refl _) (.cells (bv [kd]).toArray 5))) hg8)
            have HB8 := Lib.hid (dB.out.trans hb78)
            have HX8 := Lib.hid (hk78.row dXr.out (by decide))
            have HRd8 := Lib.hid (dR.out.belowB hb78 HLt.out)
            have HO8 := Lib.hid ho8
            have hszw8 : w.heap.size ≤ w8.heap.size := HB8.out.size
            have hc8 : w8.cell? ⟨X, 0, none⟩ = some (.string nm) := HX8.out.cell (i := 0) (by omega)
            clear ho8 hg8 hnil8 hb78 hk78 hc1 dO dB dR dXr HC0 HR2 hszw
            have HTk := Lib.hid (text_k w.heap.size v8 _ _ nm 1 w8 hszw8 HO8.out (by omega) (by omega) (by omega))
            rw [show ((1 : Nat) : Int) = 1 from rfl] at HTk
            go_wp2_with fail
            refine HTk.out.mono ?_
            rintro e w9 ⟨v9, rfl, ho9, hb9, hk9⟩
            have HB9 := Lib.hid (HB8.out.trans hb9)
            have HX9 := Lib.hid (hk9.row HX8.out (by decide))
            have HRd9 := Lib.hid (HRd8.out.belowB hb9 HLt.out)
            have HO9 := Lib.hid ho9
            have hszw9 : w.heap.size ≤ w9.heap.size := HB9.out.size
            have HI9 : Hid (∀ j u, (bv ids)[j]? = some u → w9.cell? (Addr.add ⟨X, 2, none⟩ j) = some u) := Lib.hid (fun j u hj => by
              have hl := (List.getElem?_eq_some_iff.1 hj).1
              rw [bv_len, HIl.out] at hl
              rw [Addr.add_mid, HX9.out.cell (show 2 + j < 34 by omega), ← hj, Nat.add_comm]
              show some (Value.int .u8 (ids.getD j 0)) = _
              simp [bv, List.getD, show j < ids.length by have := HIl.out; omega])
            clear ho9 hb9 hk9 HTk HB8 HX8 HRd8 HO8 hc8 hszw8
            go_wp2_with (at_builtin; refine wpList_append_own _ rfl _ _ 23 rfl w.heap.size 5 i0 (.int .u8 0) 1 1 Try.underlying23 hi hz0 hz1 hz2 rfl (by decide) _ _ _ rfl HO9.out ⟨X, 2, none⟩ 32 32 (bv ids) rfl (by rw [bv_len, HIl.out]) HI9.out (bv_one _) ?d3 ?d4 ?d5 ?_)
            case d3 => unfold maxLen; omega
            case d4 => omega
            case d5 => exact hszw9
            intro v10 w10 ho10 hg10 hnil10
            have hb910 := below_grown hszw9 HO9.out hg10
            have hbe : be 1 (nm.size : Int) = [(nm.size : Int)] := by
              simp only [be]
              congr 1
              omega
            have HLn2 : Hid ((eB (es.take (k + 1))).length = (eB (es.take k)).length + 1 + 1 + nm.size + 32) := Lib.hid (by rw [HBs.out]; simp [sv_len, HIl.out]; omega)
            have HO10 := Lib.hid (own_eq (ys := bv (eB (es.take (k + 1)))) (m := (eB (es.take (k + 1))).length) ho10 (by rw [HBs.out, hbe, ← sv_cells]; simp [bv]) (by rw [HLn2.out]))
            have HB10 := Lib.hid (HB9.out.trans hb910)
            have HRd10 := Lib.hid (HRd9.out.belowB hb910 HLt.out)
            clear ho10 hg10 hnil10 hb910 HO9 HB9 HX9 HRd9 HI9
            go_wp2_with fail
            go_roundw
            case rel => exact ⟨k + 1, by go_num, by omega, HF2, HO10, by have := HLn2.out; omega, HRd10, HB10⟩
            case measure => simp [intOf]; omega
          · have hE0 : (E != 0) = true := by simp [h0]
            rw [if_neg h0] at hst
            have HE2 := Lib.hid (HE.out.trans hst)
            have H0 := Lib.hid h0
            clear hE hst h0
            go_wp2_with fail
            go_ret2
            exact ⟨dB.out, .inl ⟨by rw [HE2.out]; exact H0.out, by rw [HE2.out]; rfl⟩⟩
        exact AllReadyH.nil
      · have ek : k = n := by omega
        have hd2 : decide ((k : Int) < (n : Int)) = false := by simp; omega
        have HF2 : Hid (eF es none = 0) := Lib.hid (by
          have h := HF.out
          rw [ek, List.drop_of_length_le (by omega)] at h
          exact h.symm)
        have HO2 : Hid (wr.ownsRow w.heap.size 5 1 _ (eB es).length (bv (eB es))) := Lib.hid (by
          have h := HO.out
          rw [ek, List.take_of_length_le (by omega)] at h
          exact h)
        clear HF HO HRd hlen
        go_wp2_with fail
        go_ret2
        exact ⟨HB.out, .inr ⟨by rw [HE.out, HF2.out], _, rfl, HO2.out⟩⟩
end Go.Proofs.Ytmcmapgllaopmaa.Cd
end

section
/- The document's EncodeTree at any entries. -/
namespace Go.Proofs.Ytmcmapgllaopmaa.Cd
open Go.RowKit
set_option linter.unusedVariables false

theorem new2 (a b : Int) (w : World) : ∀ j u, (bv [a, b])[j]? = some u → (w.alloc (.cells (bv [a, b]).toArray 5)).cell? (Addr.add ⟨w.heap.size, 0, none⟩ j) = some u := new_cells [a, b] w _

theorem range_ent' {w : World} {b o : Nat} {s : ByteArray} {k : Int} {ids : List Int} (h : w.rangeAt b o (ent s k ids)) : w.cell? ⟨b, o, none⟩ = some (.string s) ∧ w.cell? ⟨b, o + 1, none⟩ = some (.int .i64 k) ∧ w.rangeAt b (o + 2) (bv ids) :=
  ⟨h 0 _ rfl, h 1 _ rfl, fun j v hv => by
    have := h (j + 2) v hv
    rw [show o + 2 + j = o + (j + 2) by omega]
    exact this⟩

set_option maxRecDepth 100000 in
set_option maxHeartbeats 1000000 in
theorem rencodeTree_any (A : Option Addr) (n C : Nat) (es : List Fr.Ent) (w : World) (h : RdE w A n C es) :
    Calls Try.prog 13 #[.slice A n C] w (EtRet es w) := by
  obtain ⟨i0, hi, hz0, hz1, hz2⟩ := info_parts info5
  have hl := h.len
  have hcap := h.cap
  have hmax := h.max
  have hbig := h.big
  have HRd := Lib.hid h
  have HLt : Hid (∀ x, A = some x → 0 < n → x.block < w.heap.size) := Lib.hid (fun x hx h0 => by
    obtain ⟨g, o, h1, h2, -⟩ := h.cell h0
    rw [h1] at hx
    obtain rfl := Option.some.inj hx
    exact h2)
  have HB0 := Lib.hid (Below.refl w.heap.size w)
  clear h
  by_cases hgt : 512 < n
  · have HE : Hid (eE es = 4) := Lib.hid (by unfold eE; rw [if_pos (by omega)])
    have hd : decide ((512 : Int) < (n : Int)) = true := by simp; omega
    go_enter Try.func13, Try.ntmps13
    go_wp2_with fail
    go_ret2
    exact ⟨HB0.out, .inl ⟨by rw [HE.out]; decide, by rw [HE.out]; rfl⟩⟩
  · have HE : Hid (eE es = eF es none) := Lib.hid (by unfold eE; rw [if_neg (by omega)])
    have hd : decide ((512 : Int) < (n : Int)) = false := by simp; omega
    go_enter Try.func13, Try.ntmps13
    go_wp2_with fail
    go_loopw [4, 5, 6] (fun b s i wr => ∃ (k : Nat) (last : ByteArray), i = .int .i64 k ∧ s = .string last ∧ k ≤ n ∧ Hid (eF (es.drop k) (lastN (es.take k)) = eF es none) ∧ Hid (lastN (es.take k) = if (k == 0) = true then none else some last) ∧ Hid (wr.ownsRow w.heap.size 5 1 b (eB (es.take k)).length (bv (eB (es.take k)))) ∧ (eB (es.take k)).length ≤ k * 100 ∧ Hid (RdE wr A n C es) ∧ Hid (Below w.heap.size w wr)) (fun _ _ i _ => n - (intOf i).toNat)
    case atStart => exact ⟨0, ByteArray.empty, rfl, rfl, Nat.zero_le _, Lib.hid rfl, Lib.hid rfl, Lib.hid ⟨rfl, .inl ⟨rfl, rfl⟩⟩, Nat.zero_le _, HRd, HB0⟩
    case round =>
      clear HRd HB0
      obtain ⟨k, last, rfl, rfl, hk, HF, HLa, HO, hlen, HRd, HB⟩ := hrel
      by_cases hlt : k < n
      · obtain ⟨g, o, rfl, hgl, hcc⟩ := HRd.out.cell (by omega)
        have hst := eF_step es k (by omega)
        rw [HF.out] at hst
        have hbs := eB_step es k (by omega)
        have hla := lastN_take es k (by omega)
        have hok := HRd.out.ok _ (getDE_mem (k := k) (by omega))
        obtain ⟨nm, hnm⟩ : ∃ nm, nm = (es.getD k default).name := ⟨_, rfl⟩
        obtain ⟨kd, hkd⟩ : ∃ kd, kd = (es.getD k default).kind := ⟨_, rfl⟩
        obtain ⟨ids, hids⟩ : ∃ ids, ids = (es.getD k default).id := ⟨_, rfl⟩
        have HXc : Hid (wr.rangeAt g (o + k * 34) (ent nm kd ids)) := Lib.hid (by rw [hnm, hkd, hids]; exact hcc k hlt)
        have he1 : eB1 (es.getD k default) = kd :: (nm.size : Int) :: (sv nm ++ ids) := by rw [hnm, hkd, hids]; rfl
        rw [he1] at hbs
        rw [← hnm, ← hids] at hok
        rw [← hnm] at hla
        obtain ⟨b, hb⟩ : ∃ b, (k == 0) = b := ⟨_, rfl⟩
        have hbi : ((k : Int) == 0) = b := by rw [← hb]; cases hq : (k == 0) <;> simp_all
        rw [← hnm, ← hkd, ← hids, HLa.out, hb] at hst
        have HIl := Lib.hid hok.1
        have Hsz : Hid (nm.size ≤ 140737488355327) := Lib.hid (Nat.le_trans hok.2 (by decide))
        have HES : Hid ((Try.prog.info? 87).map (·.size) = some (ent nm kd ids).length) := Lib.hid (by rw [ent_length nm kd ids HIl.out]; kernel_rfl)
        have HBs := Lib.hid hbs
        have HLa2 := Lib.hid hla
        have HEn := Lib.hid (rentry_any nm kd ids HIl.out Hsz.out b last wr)
        obtain ⟨E, hE⟩ : ∃ E, E = ce kd nm ids (if b = true then none else some last) := ⟨_, rfl⟩
        rw [← hE] at hst HEn
        have hwr : w.heap.size ≤ wr.heap.size := HB.out.size
        have hk0 : (0 : Int) ≤ (k : Int) := by omega
        have hk1 : (k : Int) < (n : Int) := by omega
        have hkn : k < n := hlt
        have hgw : g < w.heap.size := HLt.out _ rfl (by omega)
        clear hbs he1 hok hcc hnm hkd hids hb hla HLa
        go_wp2_with (refine wpList_load_mid rfl _ _ rfl g (o + k * 34) rfl (ent nm kd ids) _ HXc.out Try.underlying87 rfl HES.out ?_)
        refine HEn.out.mono ?_
        rintro e w7 ⟨rfl, hb7⟩
        have HX7 := Lib.hid (range_below hb7 HXc.out hgl)
        have HR7 := Lib.hid (HRd.out.below hb7)
        have HO7 := Lib.hid (own_keep HO.out hb7)
        have HB7 := Lib.hid (HB.out.trans (hb7.mono hwr))
        have hw7 : w.heap.size ≤ w7.heap.size := HB7.out.size
        clear hb7 HXc HRd HO HB HEn hgl
        by_cases h0 : E = 0
        · have hE0 : (E != 0) = false := by simp [h0]
          have hcz := ce_zero (hE.symm.trans h0)
          rw [if_pos h0] at hst
          have HF2 := Lib.hid hst.symm
          have hk1' := hcz.1
          have hk4' := hcz.2.1
          have hn40 : nm.size ≤ 40 := by have := hcz.2.2.2.1; omega
          have hwK : IntKind.u8.wrap kd = kd := IntWalk.u8_in _ (by omega)
          have hwS : IntKind.u8.wrap (nm.size : Int) = (nm.size : Int) := IntWalk.u8_in _ (by omega)
          obtain ⟨hc0', hc1', hr2⟩ := range_ent' HX7.out
          clear hE hst hcz h0
          go_wp2_with (at_builtin; refine wpList_append_own _ rfl _ _ 23 rfl w.heap.size 5 i0 (.int .u8 0) 1 1 Try.underlying23 hi hz0 hz1 hz2 rfl (by decide) _ _ _ rfl (own_keep HO7.out ((Below.refl w7.heap.size w7).alloc (Nat.le_refl _) (.cells (bv [kd, (nm.size : Int)]).toArray 5))) ⟨w7.heap.size, 0, none⟩ 2 2 (bv [kd, (nm.size : Int)]) rfl rfl ?c1 (bv_one _) ?c3 ?c4 ?c5 ?_)
          case c1 => exact new2 kd (nm.size : Int) w7
          case c3 => unfold maxLen; omega
          case c4 => omega
          case c5 => exact Nat.le_trans hw7 (al_le w7 _)
          intro v8 w8 ho8 hg8 hnil8
          have hb8 : Below w.heap.size w7 w8 := ((Below.refl w.heap.size w7).alloc hw7 (.cells (bv [kd, (nm.size : Int)]).toArray 5)).trans (below_grown (Nat.le_trans hw7 (al_le w7 _)) (own_keep HO7.out ((Below.refl w7.heap.size w7).alloc (Nat.le_refl _) (.cells (bv [kd, (nm.size : Int)]).toArray 5))) hg8)
          have HB8 := Lib.hid (HB7.out.trans hb8)
          have HR8 := Lib.hid (HR7.out.belowB hb8 HLt.out)
          have HI8 := Lib.hid (range_below hb8 hr2 hgw)
          have HO8 := Lib.hid ho8
          have hw8 : w.heap.size ≤ w8.heap.size := HB8.out.size
          clear ho8 hg8 hnil8 hb8 hc0' hc1' hr2 HB7 HR7 HO7 hw7 HX7
          go_wp2_with (at_builtin; refine Lib.wpList_append_own_string _ rfl _ _ _ _ rfl w.heap.size 5 i0 Try.underlying23 Try.underlying9 hi hz0 hz1 hz2 _ _ _ rfl HO8.out nm rfl ?e1 ?e2 ?e3 ?_)
          case e1 => unfold maxLen; omega
          case e2 => omega
          case e3 => omega
          intro v9 w9 ho9 hg9 hnil9
          have hb9 := below_grown hw8 HO8.out hg9
          have HB9 := Lib.hid (HB8.out.trans hb9)
          have HR9 := Lib.hid (HR8.out.belowB hb9 HLt.out)
          have HI9 := Lib.hid (range_below hb9 HI8.out hgw)
          have HO9 := Lib.hid ho9
          have hw9 : w.heap.size ≤ w9.heap.size := HB9.out.size
          have HSi : Hid ((Try.prog.info? 37).map (·.size) = some (bv ids).length) := Lib.hid (by rw [bv_len, HIl.out]; kernel_rfl)
          have HPu := Lib.hid (put_k w.heap.size v9 _ _ ids HIl.out w9 hw9 HO9.out (by omega))
          clear ho9 hg9 hnil9 hb9 HB8 HR8 HI8 HO8 hw8
          generalize hDI : bv ids = DI at *
          have HDI := Lib.hid hDI
          clear hDI
          go_wp2_with (refine wpList_load_mid rfl _ _ rfl g (o + k * 34 + 2) rfl DI _ HI9.out Try.underlying37 rfl HSi.out ?_)
          refine HPu.out.mono ?_
          rintro e w10 ⟨v10, rfl, ho10, hb10, -⟩
          have HLn2 : Hid ((eB (es.take (k + 1))).length = (eB (es.take k)).length + 2 + nm.size + 32) := Lib.hid (by rw [HBs.out]; simp [sv_len, HIl.out]; omega)
          have HO10 := Lib.hid (own_eq (ys := bv (eB (es.take (k + 1)))) (m := (eB (es.take (k + 1))).length) ho10 (by rw [HBs.out, ← sv_cells, ← HDI.out]; simp [bv]) (by rw [HLn2.out]))
          have HB10 := Lib.hid (HB9.out.trans hb10)
          have HR10 := Lib.hid (HR9.out.belowB hb10 HLt.out)
          clear ho10 hb10 HPu HB9 HR9 HI9 HO9 hw9
          go_wp2_with fail
          go_roundw
          case rel => exact ⟨k + 1, nm, by go_num, rfl, by omega, HF2, Lib.hid (by rw [HLa2.out]; simp), HO10, by have := HLn2.out; omega, HR10, HB10⟩
          case measure => simp [intOf]; omega
        · have hE0 : (E != 0) = true := by simp [h0]
          rw [if_neg h0] at hst
          have HE2 := Lib.hid (HE.out.trans hst)
          have H0 := Lib.hid h0
          clear hE hst h0
          go_wp2_with fail
          go_ret2
          exact ⟨HB7.out, .inl ⟨by rw [HE2.out]; exact H0.out, by rw [HE2.out]; rfl⟩⟩
      · have ek : k = n := by omega
        have hd2 : decide ((k : Int) < (n : Int)) = false := by simp; omega
        have hd3 : ¬ k < n := hlt
        have HF2 : Hid (eF es none = 0) := Lib.hid (by
          have h := HF.out
          rw [ek, List.drop_of_length_le (by omega)] at h
          exact h.symm)
        have HO2 : Hid (wr.ownsRow w.heap.size 5 1 _ (eB es).length (bv (eB es))) := Lib.hid (by
          have h := HO.out
          rw [ek, List.take_of_length_le (by omega)] at h
          exact h)
        clear HF HO HRd hlen HLa
        go_wp2_with fail
        go_ret2
        exact ⟨HB.out, .inr ⟨by rw [HE.out, HF2.out], _, rfl, HO2.out⟩⟩
end Go.Proofs.Ytmcmapgllaopmaa.Cd
end

section
/- The document's Has. -/
namespace Go.Proofs.Ytmcmapgllaopmaa.Cd
open Go.RowKit
set_option linter.unusedVariables false

set_option maxRecDepth 100000 in
theorem has_any (A : Option Addr) (n C : Nat) (l : List (List Int)) (p : List Int) (hp : p.length = 32) (w : World) (h : RdIds w A n C l) :
    Calls Try.prog 55 #[.slice A n C, .agg (bv p).toArray] w fun e w' => e = .returned (.bool (decide (p ∈ l))) ∧ Below w.heap.size w w' := by
  have HL := Lib.hid (show (Try.prog.info? 37).map (·.size) = some (bv p).length by rw [bv, List.length_map, hp]; kernel_rfl)
  have HR : Hid ((w.alloc (.cells (bv p).toArray 37)).rangeAt w.heap.size 0 (bv p)) := Lib.hid (fun j v hj => by rw [Nat.zero_add, World.cell?_alloc_new]; simpa using hj)
  have hbA := (Below.refl w.heap.size w).alloc (Nat.le_refl _) (.cells (bv p).toArray 37)
  have HI := Lib.hid (h.below hbA)
  have HB0 := Lib.hid hbA
  have hsz := al_lt w (.cells (bv p).toArray 37)
  have hbig := h.big
  have hcap := h.cap
  have hmax := h.max
  have HP := Lib.hid hp
  clear hbA h hp
  generalize hDP : bv p = DP at *
  have HD := Lib.hid hDP
  clear hDP
  go_enter Try.func55, Try.ntmps55
  go_wp2_with fail
  generalize w.alloc (.cells DP.toArray 37) = w0 at *
  generalize hX : w.heap.size = X at *
  have HX := Lib.hid hX
  clear hX
  go_loopw [5] (fun s wr => ∃ k : Nat, s = .int .i64 k ∧ k ≤ n ∧ Hid (∀ i, i < k → l.getD i [] ≠ p) ∧ Hid (Below w0.heap.size w0 wr)) (fun s _ => n - (intOf s).toNat)
  case atStart => exact ⟨0, rfl, by omega, Lib.hid (fun i hi => absurd hi (by omega)), Lib.hid (Below.refl _ _)⟩
  case round =>
    obtain ⟨k, rfl, hk, HN, HB⟩ := hrel
    by_cases hlt : k < n
    · obtain ⟨g, o, rfl, hg, hc⟩ := HI.out.cell (by omega)
      have hql := HI.out.ids _ (getD_mem (k := k) (by have := HI.out.len; omega))
      have HS2 := Lib.hid (range_below HB.out (hc k hlt) hg)
      have HS1 := Lib.hid (range_below HB.out HR.out hsz)
      have HL2 := Lib.hid (show (Try.prog.info? 37).map (·.size) = some (bv (l.getD k [])).length by rw [bv, List.length_map, hql]; kernel_rfl)
      have heq := fun W => ids_eq (l.getD k []) p hql HP.out W
      rw [HD.out] at heq
      have hk0 : (0 : Int) ≤ (k : Int) := by omega
      have hk1 : (k : Int) < (n : Int) := by omega
      have hkn2 : k < n := hlt
      clear hc hql
      by_cases hpq : l.getD k [] = p
      · rw [decide_eq_true hpq] at heq
        have HM : Hid (decide (p ∈ l) = true) := Lib.hid (decide_eq_true (by rw [← hpq]; exact getD_mem (by have := HI.out.len; omega)))
        clear hpq
        generalize bv (l.getD k []) = DQ at *
        go_wp2_with fail
        refine wp_region_noPanic ?_
        refine wp_region_held_drew (S := (fun wS => wS.rangeAt X 0 DP ∧ wS.rangeAt g (o + k * 32) DQ)) (by kernel_rfl) ?_ (fun hHeld => ?_)
        · ((try dsimp only); exact ⟨HS1.out, HS2.out⟩)
        refine wpAnyH_take (i := 0) (oi := { dst := some 12, op := Op.move (Operand.tmp 0), type := 38, pos := "ref.go:163", after := #[], guard := none }) (v := ?_) rfl (by kernel_rfl) (by kernel_rfl) (by kernel_rfl) (fun _ _ _ h => h) (Or.inl ⟨by rfl, ?_⟩) (by assumption) ?_
        rotate_left 1
        · ((intro w hSw; (try dsimp only at hSw); go_simp) <;> with_reducible rfl)
        (try simp only [Act.put, List.setIfInBounds_toArray, List.set_cons_zero, List.set_cons_succ])
        refine wpAnyH_take (i := 1) (oi := { dst := some 13, op := Op.move (Operand.tmp 5), type := 3, pos := "ref.go:163", after := #[], guard := none }) (v := ?_) rfl (by kernel_rfl) (by kernel_rfl) (by kernel_rfl) (fun _ _ _ h => h) (Or.inl ⟨by rfl, ?_⟩) (by assumption) ?_
        rotate_left 1
        · ((intro w hSw; (try dsimp only at hSw); go_simp) <;> with_reducible rfl)
        (try simp only [Act.put, List.setIfInBounds_toArray, List.set_cons_zero, List.set_cons_succ])
        refine wpAnyH_take (i := 2) (oi := { dst := some 14, op := Op.indexAddr 38 (Operand.tmp 12) (Operand.tmp 13), type := 0, pos := "ref.go:163", after := #[{ on := 0, ground := Ground.data }, { on := 1, ground := Ground.data }], guard := none }) (v := ?_) rfl (by kernel_rfl) (by kernel_rfl) (by kernel_rfl) (fun _ _ _ h => h) (Or.inl ⟨by rfl, ?_⟩) (by assumption) ?_
        rotate_left 1
        · ((intro w hSw; (try dsimp only at hSw); go_simp) <;> with_reducible rfl)
        (try simp only [Act.put, List.setIfInBounds_toArray, List.set_cons_zero, List.set_cons_succ])
        refine' wpAnyH_take (i := 3) (oi := { dst := some 15, op := Op.load 37 (Operand.tmp 14), type := 37, pos := "ref.go:163", after := #[{ on := 2, ground := Ground.data }], guard := none }) (v := _) rfl (by kernel_rfl) (by kernel_rfl) (by kernel_rfl) (fun _ _ _ h => h) (yieldsIf_load_mid (by rfl) _ _ rfl _ _ rfl DQ _ (fun w hSw => hSw.2) Try.underlying37 rfl HL2.out) (by assumption) ?_
        (try simp only [Act.put, List.setIfInBounds_toArray, List.set_cons_zero, List.set_cons_succ])
        refine' wpAnyH_take (i := 4) (oi := { dst := some 16, op := Op.load 37 (Operand.tmp 3), type := 37, pos := "ref.go:163", after := #[], guard := none }) (v := _) rfl (by kernel_rfl) (by kernel_rfl) (by kernel_rfl) (fun _ _ _ h => h) (yieldsIf_load_mid (by rfl) _ _ rfl _ _ rfl DP _ (fun w hSw => hSw.1) Try.underlying37 rfl HL.out) (by assumption) ?_
        (try simp only [Act.put, List.setIfInBounds_toArray, List.set_cons_zero, List.set_cons_succ])
        refine wpAnyH_take (i := 5) (oi := { dst := some 17, op := Op.binOp BinOp.eql 37 (Operand.tmp 15) (Operand.tmp 16) 37, type := 4, pos := "ref.go:163", after := #[{ on := 3, ground := Ground.data }, { on := 4, ground := Ground.data }], guard := none }) (v := ?_) rfl (by kernel_rfl) (by kernel_rfl) (by kernel_rfl) (fun _ _ _ h => h) (Or.inl ⟨by rfl, ?_⟩) (by assumption) ?_
        rotate_left 1
        · ((intro w hSw; (try dsimp only at hSw); go_simp) <;> with_reducible rfl)
        (try simp only [Act.put, List.setIfInBounds_toArray, List.set_cons_zero, List.set_cons_succ])
        refine wpAnyH_done (by kernel_rfl) ?_ _
        refine NoPanic.normal ?_
        skip
        go_wp2_with fail
        go_ret
        rw [HM.out]
        exact ⟨rfl, by rw [HX.out]; exact HB0.out.trans ((HB.out.mono (by omega)).drew)⟩
      · rw [decide_eq_false hpq] at heq
        have HM : Hid (l.getD k [] ≠ p) := Lib.hid (fun e => hpq e)
        clear hpq
        generalize hDQ : bv (l.getD k []) = DQ at *
        clear hDQ
        go_wp2_with fail
        refine wp_region_noPanic ?_
        refine wp_region_held_drew (S := (fun wS => wS.rangeAt X 0 DP ∧ wS.rangeAt g (o + k * 32) DQ)) (by kernel_rfl) ?_ (fun hHeld => ?_)
        · ((try dsimp only); exact ⟨HS1.out, HS2.out⟩)
        refine wpAnyH_take (i := 0) (oi := { dst := some 12, op := Op.move (Operand.tmp 0), type := 38, pos := "ref.go:163", after := #[], guard := none }) (v := ?_) rfl (by kernel_rfl) (by kernel_rfl) (by kernel_rfl) (fun _ _ _ h => h) (Or.inl ⟨by rfl, ?_⟩) (by assumption) ?_
        rotate_left 1
        · ((intro w hSw; (try dsimp only at hSw); go_simp) <;> with_reducible rfl)
        (try simp only [Act.put, List.setIfInBounds_toArray, List.set_cons_zero, List.set_cons_succ])
        refine wpAnyH_take (i := 1) (oi := { dst := some 13, op := Op.move (Operand.tmp 5), type := 3, pos := "ref.go:163", after := #[], guard := none }) (v := ?_) rfl (by kernel_rfl) (by kernel_rfl) (by kernel_rfl) (fun _ _ _ h => h) (Or.inl ⟨by rfl, ?_⟩) (by assumption) ?_
        rotate_left 1
        · ((intro w hSw; (try dsimp only at hSw); go_simp) <;> with_reducible rfl)
        (try simp only [Act.put, List.setIfInBounds_toArray, List.set_cons_zero, List.set_cons_succ])
        refine wpAnyH_take (i := 2) (oi := { dst := some 14, op := Op.indexAddr 38 (Operand.tmp 12) (Operand.tmp 13), type := 0, pos := "ref.go:163", after := #[{ on := 0, ground := Ground.data }, { on := 1, ground := Ground.data }], guard := none }) (v := ?_) rfl (by kernel_rfl) (by kernel_rfl) (by kernel_rfl) (fun _ _ _ h => h) (Or.inl ⟨by rfl, ?_⟩) (by assumption) ?_
        rotate_left 1
        · ((intro w hSw; (try dsimp only at hSw); go_simp) <;> with_reducible rfl)
        (try simp only [Act.put, List.setIfInBounds_toArray, List.set_cons_zero, List.set_cons_succ])
        refine' wpAnyH_take (i := 3) (oi := { dst := some 15, op := Op.load 37 (Operand.tmp 14), type := 37, pos := "ref.go:163", after := #[{ on := 2, ground := Ground.data }], guard := none }) (v := _) rfl (by kernel_rfl) (by kernel_rfl) (by kernel_rfl) (fun _ _ _ h => h) (yieldsIf_load_mid (by rfl) _ _ rfl _ _ rfl DQ _ (fun w hSw => hSw.2) Try.underlying37 rfl HL2.out) (by assumption) ?_
        (try simp only [Act.put, List.setIfInBounds_toArray, List.set_cons_zero, List.set_cons_succ])
        refine' wpAnyH_take (i := 4) (oi := { dst := some 16, op := Op.load 37 (Operand.tmp 3), type := 37, pos := "ref.go:163", after := #[], guard := none }) (v := _) rfl (by kernel_rfl) (by kernel_rfl) (by kernel_rfl) (fun _ _ _ h => h) (yieldsIf_load_mid (by rfl) _ _ rfl _ _ rfl DP _ (fun w hSw => hSw.1) Try.underlying37 rfl HL.out) (by assumption) ?_
        (try simp only [Act.put, List.setIfInBounds_toArray, List.set_cons_zero, List.set_cons_succ])
        refine wpAnyH_take (i := 5) (oi := { dst := some 17, op := Op.binOp BinOp.eql 37 (Operand.tmp 15) (Operand.tmp 16) 37, type := 4, pos := "ref.go:163", after := #[{ on := 3, ground := Ground.data }, { on := 4, ground := Ground.data }], guard := none }) (v := ?_) rfl (by kernel_rfl) (by kernel_rfl) (by kernel_rfl) (fun _ _ _ h => h) (Or.inl ⟨by rfl, ?_⟩) (by assumption) ?_
        rotate_left 1
        · ((intro w hSw; (try dsimp only at hSw); go_simp) <;> with_reducible rfl)
        (try simp only [Act.put, List.setIfInBounds_toArray, List.set_cons_zero, List.set_cons_succ])
        refine wpAnyH_done (by kernel_rfl) ?_ _
        refine NoPanic.normal ?_
        skip
        go_wp2_with fail
        go_roundw
        case rel => exact ⟨k + 1, by go_num, by omega, Lib.hid (fun i hi => by
          rcases Nat.lt_or_ge i k with h1 | h1
          · exact HN.out i h1
          · rw [show i = k by omega]; exact HM.out), Lib.hid (HB.out.drew)⟩
        case measure => simp [intOf]; omega
    · have hkn : k = n := by omega
      have hd : decide ((k : Int) < (n : Int)) = false := by simp; omega
      have hd2 : ¬ k < n := hlt
      go_wp2_with fail
      go_ret
      have hno : decide (p ∈ l) = false := decide_eq_false (fun hm => ?_)
      · rw [hno]
        exact ⟨rfl, by rw [HX.out]; exact HB0.out.trans (HB.out.mono (by omega))⟩
      · obtain ⟨i, hi, e⟩ := List.mem_iff_getElem.1 hm
        refine HN.out i (by have := HI.out.len; omega) ?_
        rw [List.getD_eq_getElem?_getD, List.getElem?_eq_getElem hi]; exact e
end Go.Proofs.Ytmcmapgllaopmaa.Cd
end

section
/- A commit's bytes in the document's words: what failed first stays. -/
namespace Go.Proofs.Ytmcmapgllaopmaa.Cd
open Go.RowKit
set_option linter.unusedVariables false

theorem tkF_st {f : Int} (h : f ≠ 0) (a L n : Nat) : tkF f a L n = f := (tk_no h [] a L n).1
theorem fl_st {f : Int} (h : f ≠ 0) (e : Int) : fl f e = f := by unfold fl; rw [if_neg h]
theorem tx2_st {f : Int} (h : f ≠ 0) (l : List Int) (a L n m : Nat) : tx2 f l a L n m = f := by
  unfold tx2
  rw [tkF_st h, fl_st h, ite_self]
theorem txF_st {f : Int} (h : f ≠ 0) (l : List Int) (a L n m : Nat) : txF f l a L n m = f := by
  unfold txF
  rw [tx2_st h, tkF_st h]
theorem enF_st {f : Int} (h : f ≠ 0) (a L : Nat) : enF f a L = f := by
  unfold enF
  rw [fl_st h, ite_self]
theorem pL_st {f : Int} (h : f ≠ 0) (l : List Int) (L n a : Nat) (ids : List (List Int)) : pL l L n f a ids = (f, a, ids) := by
  cases n with
  | zero => rfl
  | succ n => rw [pL, if_neg h]
theorem pa_st {f : Int} (h : f ≠ 0) (l : List Int) (a L : Nat) : (pa f l a L).1 = f := by
  have h2 : pa2 f l a L = f := by
    unfold pa2
    rw [tkF_st h, fl_st h, ite_self]
  unfold pa
  rw [h2, pL_st h]
theorem c6_st {f : Int} (h : f ≠ 0) {l : List Int} {L : Nat} (h6 : cF6 0 l 0 L = f) : cF7 0 l 0 L = f := by
  unfold cF7
  rw [h6, enF_st h]
theorem cm_st {f : Int} (h : f ≠ 0) {l : List Int} {L : Nat} (h6 : tx2 (cF5 0 l 0 L) l (cA5 0 l 0 L) L 2 1000 = f) : cF7 0 l 0 L = f := by
  refine c6_st h ?_
  unfold cF6 txF
  rw [h6, tkF_st h]
theorem c4_st {f : Int} (h : f ≠ 0) {l : List Int} {L : Nat} (h4 : cF4 0 l 0 L = f) : cF7 0 l 0 L = f := by
  have h5 : cF5 0 l 0 L = f := by unfold cF5; rw [h4, tkF_st h]
  refine cm_st h ?_
  rw [h5, tx2_st h]
theorem ca_st {f : Int} (h : f ≠ 0) {l : List Int} {L : Nat} (h4 : tx2 (cQ 0 l 0 L).1 l (cQ 0 l 0 L).2.1 L 2 1000 = f) : cF7 0 l 0 L = f := by
  refine c4_st h ?_
  unfold cF4 txF
  rw [h4, tkF_st h]
theorem cQ_st {f : Int} (h : f ≠ 0) {l : List Int} {L : Nat} (hq : (cQ 0 l 0 L).1 = f) : cF7 0 l 0 L = f := by
  refine ca_st h ?_
  rw [hq, tx2_st h]
theorem c2_st {f : Int} (h : f ≠ 0) {l : List Int} {L : Nat} (h2 : cF2 0 l 0 L = f) : cF7 0 l 0 L = f := by
  refine cQ_st h ?_
  unfold cQ
  rw [h2, pa_st h]

/-! ### the same bytes, in the document's words -/
theorem c1_of (l : List Int) (L : Nat) : cT 0 l 0 L = idv (cuB false l 0 32 L) ∧ tkF 0 0 L 32 = ff (cuC false 0 32 L) ∧ tkA 0 0 L 32 = cuP false 0 32 L := by
  have e0 : (0 : Int) = ff false := rfl
  unfold cT
  exact ⟨by rw [e0, tkL_ff], by rw [e0, tkF_ff], by rw [e0, tkA_ff]⟩
theorem c2_of (l : List Int) (L : Nat) : cF2 0 l 0 L = if idv (cuB false l 0 32 L) = List.replicate 32 0 then fl (ff (cuC false 0 32 L)) 1 else ff (cuC false 0 32 L) := by
  unfold cF2
  rw [(c1_of l L).1, (c1_of l L).2.1]
theorem cQ_of {l : List Int} {L P1 : Nat} {C1 : Bool} (h2 : cF2 0 l 0 L = ff C1) (hA : tkA 0 0 L 32 = P1) : cQ 0 l 0 L = pL l L (nv (cuB C1 l P1 1 L)).toNat (if 8 < (nv (cuB C1 l P1 1 L)).toNat then fl (ff (cuC C1 P1 1 L)) 4 else ff (cuC C1 P1 1 L)) (cuP C1 P1 1 L) [] := by
  unfold cQ pa pa2 paM
  rw [h2, hA, tkF_ff, tkA_ff, tkL_ff]
theorem tx_of (l : List Int) (L P3 : Nat) (C3 : Bool) : tx2 (ff C3) l P3 L 2 1000 = if 1000 < (nv (cuB C3 l P3 2 L)).toNat then fl (ff (cuC C3 P3 2 L)) 5 else ff (cuC C3 P3 2 L) := by
  unfold tx2 txM
  rw [tkF_ff, tkL_ff]
theorem txS_of {l : List Int} {L P3 : Nat} {C3 C4 : Bool} (ht : tx2 (ff C3) l P3 L 2 1000 = ff C4) : txS (ff C3) l P3 L 2 1000 = sb (cuB C4 l (cuP C3 P3 2 L) (nv (cuB C3 l P3 2 L)).toNat L) ∧ txA (ff C3) l P3 L 2 1000 = cuP C4 (cuP C3 P3 2 L) (nv (cuB C3 l P3 2 L)).toNat L ∧ txF (ff C3) l P3 L 2 1000 = ff (cuC C4 (cuP C3 P3 2 L) (nv (cuB C3 l P3 2 L)).toNat L) := by
  unfold txS txA txF
  rw [ht, tkL_ff, tkA_ff, tkF_ff]
  unfold txM
  rw [tkL_ff, tkA_ff]
  exact ⟨rfl, rfl, rfl⟩
theorem c4_of {l : List Int} {L P3 : Nat} {C3 C4 : Bool} (hq : (cQ 0 l 0 L).1 = ff C3) (hp : (cQ 0 l 0 L).2.1 = P3) (ht : tx2 (ff C3) l P3 L 2 1000 = ff C4) : cAu 0 l 0 L = sb (cuB C4 l (cuP C3 P3 2 L) (nv (cuB C3 l P3 2 L)).toNat L) ∧ cA4 0 l 0 L = cuP C4 (cuP C3 P3 2 L) (nv (cuB C3 l P3 2 L)).toNat L ∧ cF4 0 l 0 L = ff (cuC C4 (cuP C3 P3 2 L) (nv (cuB C3 l P3 2 L)).toNat L) := by
  unfold cAu cA4 cF4
  rw [hq, hp]
  exact txS_of ht
theorem c5_of {l : List Int} {L P5 : Nat} {C5 : Bool} (hf : cF4 0 l 0 L = ff C5) (ha : cA4 0 l 0 L = P5) : cB 0 l 0 L = cuB C5 l P5 8 L ∧ cA5 0 l 0 L = cuP C5 P5 8 L ∧ cF5 0 l 0 L = ff (cuC C5 P5 8 L) := by
  unfold cB cA5 cF5
  rw [hf, ha, tkL_ff, tkA_ff, tkF_ff]
  exact ⟨rfl, rfl, rfl⟩
theorem c6_of {l : List Int} {L P6 : Nat} {C6 C7 : Bool} (hf : cF5 0 l 0 L = ff C6) (ha : cA5 0 l 0 L = P6) (ht : tx2 (ff C6) l P6 L 2 1000 = ff C7) : cMs 0 l 0 L = sb (cuB C7 l (cuP C6 P6 2 L) (nv (cuB C6 l P6 2 L)).toNat L) ∧ cA6 0 l 0 L = cuP C7 (cuP C6 P6 2 L) (nv (cuB C6 l P6 2 L)).toNat L ∧ cF6 0 l 0 L = ff (cuC C7 (cuP C6 P6 2 L) (nv (cuB C6 l P6 2 L)).toNat L) := by
  unfold cMs cA6 cF6
  rw [hf, ha]
  exact txS_of ht

/-- the words of the walk: where the document's ParseCommit is -/
structure Pc (w0 w : World) (O R X : Nat) (A : Option Addr) (L C : Nat) (l : List Int) (P : Nat) (cut : Bool) (ZC : Array Value) (tr : List Int) (Ai : Option Addr) (ni Ci : Nat) (ids : List (List Int)) (au : ByteArray) (tm : Int) (ms : ByteArray) : Prop where
  u : Cu w R A L C l P cut
  o : w.rowIs O 40 36 (fun i => ZC.getD i undef)
  x : w.rowIs X 40 36 (cmF tr (.slice Ai ni Ci) au tm ms)
  own : w.ownsRow (X + 1) 37 32 (.slice Ai ni Ci) ni (idsV ids)
  b : Below O w0 w
  hOR : O < R
  hRX : R < X
  hA : ∀ x, A = some x → 0 < L → x.block < O
theorem Pc.grown {w0 w w' : World} {O R X : Nat} {A : Option Addr} {L C : Nat} {l : List Int} {P : Nat} {cut : Bool} {ZC : Array Value} {tr : List Int} {Ai : Option Addr} {ni Ci : Nat} {ids : List (List Int)} {au : ByteArray} {tm : Int} {ms : ByteArray} {P' : Nat} {cut' : Bool}
    (h : Pc w0 w O R X A L C l P cut ZC tr Ai ni Ci ids au tm ms) (hg : w.grownBy w' (some R)) (hu : Cu w' R A L C l P' cut') : Pc w0 w' O R X A L C l P' cut' ZC tr Ai ni Ci ids au tm ms := by
  have h1 := h.hOR
  have h2 := h.hRX
  have h3 := h.x.lt
  exact ⟨hu, h.o.of_block (hg.block O h.o.lt (fun e => by have := Option.some.inj e; omega)), h.x.of_block (hg.block X h.x.lt (fun e => by have := Option.some.inj e; omega)),
    own_grown h.own hg (fun e => by have := (h.own.lt R e).1; omega), h.b.grown hg (by omega) (fun k hk => by have := Option.some.inj hk; omega), h1, h2, h.hA⟩
theorem Pc.below {w0 w w' : World} {O R X : Nat} {A : Option Addr} {L C : Nat} {l : List Int} {P : Nat} {cut : Bool} {ZC : Array Value} {tr : List Int} {Ai : Option Addr} {ni Ci : Nat} {ids : List (List Int)} {au : ByteArray} {tm : Int} {ms : ByteArray}
    (h : Pc w0 w O R X A L C l P cut ZC tr Ai ni Ci ids au tm ms) (hb : Below w.heap.size w w') : Pc w0 w' O R X A L C l P cut ZC tr Ai ni Ci ids au tm ms :=
  ⟨h.u.below hb, h.o.of_block (hb.block O h.o.lt), h.x.of_block (hb.block X h.x.lt), own_keep h.own hb, h.b.trans (hb.mono (Nat.le_of_lt h.o.lt)), h.hOR, h.hRX, h.hA⟩
theorem Pc.set {w0 w : World} {O R X : Nat} {A : Option Addr} {L C : Nat} {l : List Int} {P : Nat} {cut : Bool} {ZC : Array Value} {tr : List Int} {Ai : Option Addr} {ni Ci : Nat} {ids : List (List Int)} {au : ByteArray} {tm : Int} {ms : ByteArray} {au' : ByteArray} {tm' : Int} {ms' : ByteArray}
    (h : Pc w0 w O R X A L C l P cut ZC tr Ai ni Ci ids au tm ms) (i : Nat) (v : Value) (he : ∀ j, (if j = i then v else cmF tr (.slice Ai ni Ci) au tm ms j) = cmF tr (.slice Ai ni Ci) au' tm' ms' j) : Pc w0 (w.setCell ⟨X, i, none⟩ v) O R X A L C l P cut ZC tr Ai ni Ci ids au' tm' ms' := by
  have h1 := h.hOR
  have h2 := h.hRX
  exact ⟨h.u.setX X i v (by omega) (fun x hx h0 => by have := h.hA x hx h0; omega), h.o.setOther (a := ⟨X, i, none⟩) (by show O ≠ X; omega) v, (h.x.set i v).congr (fun j _ => he j),
    own_grown h.own (grown_set w X i v) (fun e => by have := (h.own.lt X e).1; omega), h.b.setCell (p := ⟨X, i, none⟩) (by show O ≤ X; omega) v, h1, h2, h.hA⟩
theorem cmF_au (tr : List Int) (ps : Value) (au au' : ByteArray) (tm : Int) (ms : ByteArray) (j : Nat) : (if j = 33 then Value.string au' else cmF tr ps au tm ms j) = cmF tr ps au' tm ms j := by
  unfold cmF
  by_cases e : j = 33
  · subst e; simp
  · simp [e]
theorem cmF_ps (tr : List Int) (ps ps' : Value) (au : ByteArray) (tm : Int) (ms : ByteArray) (j : Nat) : (if j = 32 then ps' else cmF tr ps au tm ms j) = cmF tr ps' au tm ms j := by
  unfold cmF
  by_cases e : j = 32
  · subst e; simp
  · simp [e]
/-- a store of whole cells elsewhere, behind all -/
theorem Pc.cells {w0 w : World} {O R X : Nat} {A : Option Addr} {L C : Nat} {l : List Int} {P : Nat} {cut : Bool} {ZC : Array Value} {tr : List Int} {Ai : Option Addr} {ni Ci : Nat} {ids : List (List Int)} {au : ByteArray} {tm : Int} {ms : ByteArray}
    (h : Pc w0 w O R X A L C l P cut ZC tr Ai ni Ci ids au tm ms) (o : Obj) (vs : List Value) : Pc w0 ((w.alloc o).setCells w.heap.size 0 vs) O R X A L C l P cut ZC tr Ai ni Ci ids au tm ms :=
  h.below (below_cells (Nat.le_refl _) vs 0 _ ((Below.refl w.heap.size w).alloc (Nat.le_refl _) o))
/-- the commit's Fin, at the result's cell -/
theorem Pc.fin {w0 w : World} {O R X : Nat} {A : Option Addr} {L C : Nat} {l : List Int} {P : Nat} {cut : Bool} {ZC : Array Value} {tr : List Int} {Ai : Option Addr} {ni Ci : Nat} {ids : List (List Int)} {au : ByteArray} {tm : Int} {ms : ByteArray}
    (h : Pc w0 w O R X A L C l P cut ZC tr Ai ni Ci ids au tm ms) : Fin w0 O w O 40 cm0 := Fin.mk' cm0_len cm0_one h.o h.b (Nat.le_refl _)

/-- a commit built out of its tree alone -/
theorem built_cm : ∀ (tr : List Int), tr.length = 32 → Try.prog.built 40 [(0, .agg (bv tr).toArray)] = some (cm tr (.slice none 0 0) ByteArray.empty 0 ByteArray.empty).toArray
  | [a0, a1, a2, a3, a4, a5, a6, a7, a8, a9, a10, a11, a12, a13, a14, a15, a16, a17, a18, a19, a20, a21, a22, a23, a24, a25, a26, a27, a28, a29, a30, a31], _ => by kernel_rfl
end Go.Proofs.Ytmcmapgllaopmaa.Cd
end

section
/- Entries are compared; the same list is the same. -/
namespace Go.Proofs.Ytmcmapgllaopmaa.Cd
open Go.RowKit
set_option linter.unusedVariables false

theorem entFields : ∃ f0 f1 f2 : Field, (Try.prog.fieldsOf 87).toList = [f0, f1, f2] ∧ f0.name ≠ "_" ∧ f1.name ≠ "_" ∧ f2.name ≠ "_" ∧ f0.type = 9 ∧ f1.type = 3 ∧ f2.type = 37 ∧ f0.offset = 0 ∧ f1.offset = 1 ∧ f2.offset = 2 := by
  unfold Program.fieldsOf
  rw [Try.underlying87]
  exact ⟨_, _, _, rfl, by decide, by decide, by decide, rfl, rfl, rfl, rfl, rfl, rfl⟩
theorem part_id (s : ByteArray) (k : Int) (ids : List Int) (hl : ids.length = 32) (w : World) : (part 37 (ent s k ids).toArray 2).run Try.prog w = .ok (.agg (bv ids).toArray) w := by
  obtain ⟨i, hi⟩ := info_of_underlying (P := Try.prog) Try.underlying37
  have hs : (Try.prog.info? 37).map (·.size) = some 32 := by kernel_rfl
  rw [hi] at hs
  have hsz : i.size = 32 := by simpa using hs
  have he : List.take 32 (List.drop 2 (ent s k ids)) = bv ids := by
    rw [show List.drop 2 (ent s k ids) = bv ids from rfl, List.take_of_length_le (by rw [bv_len]; omega)]
  unfold part isAgg
  simp only [Sem.run_bind, run_underlying Try.underlying37, Result.andThen_ok, Sem.run_pure]
  simp [sizeOf, typeInfo, hi, hsz, he]

theorem ids_eq9998 (a b : List Int) (ha : a.length = 32) (hb : b.length = 32) (w : World) :
    (Op.equalIn 9999 37 (.agg (bv a).toArray) (.agg (bv b).toArray)).run Try.prog w = .ok (decide (a = b)) w := by
  obtain ⟨i, hi⟩ := info_of_underlying (P := Try.prog) Try.underlying5
  rw [run_equalIn_array w 9998 (n := 32) (e := 5) (bv a).toArray (bv b).toArray Try.underlying37 hi, show Try.prog.cellsOf 5 = 1 from by kernel_rfl]
  rw [items_eq 9997 a b w _ (fun i hi => by have := List.mem_range.1 hi; omega), all_range a b 32 ha hb]

theorem fields3 {w : World} {d : Nat} {E : Array Value} {f0 f1 f2 : Field} {v0 v1 v2 : Value} (n0 : f0.name ≠ "_") (n1 : f1.name ≠ "_") (n2 : f2.name ≠ "_")
    (p0 : (part f0.type E f0.offset).run Try.prog w = .ok v0 w) (p1 : (part f1.type E f1.offset).run Try.prog w = .ok v1 w) (p2 : (part f2.type E f2.offset).run Try.prog w = .ok v2 w)
    (q0 : (Op.equalIn d f0.type v0 v0).run Try.prog w = .ok true w) (q1 : (Op.equalIn d f1.type v1 v1).run Try.prog w = .ok true w) (q2 : (Op.equalIn d f2.type v2 v2).run Try.prog w = .ok true w) :
    (Op.eqFields d E E [f0, f1, f2]).run Try.prog w = .ok true w := by
  simp only [Op.eqFields, n0, n1, n2, ne_eq, not_false_eq_true, if_true, Sem.run_bind, p0, p1, p2, q0, q1, q2, Result.andThen_ok, Bool.not_true, Bool.false_eq_true, if_false, Sem.run_pure]

theorem ent_self (s : ByteArray) (k : Int) (ids : List Int) (hl : ids.length = 32) (w : World) :
    (Op.equalIn 10000 87 (.agg (ent s k ids).toArray) (.agg (ent s k ids).toArray)).run Try.prog w = .ok true w := by
  obtain ⟨f0, f1, f2, hf, n0, n1, n2, t0, t1, t2, o0, o1, o2⟩ := entFields
  have hu : Try.prog.underlying 87 = some (.struct (Try.prog.fieldsOf 87)) := by
    unfold Program.fieldsOf
    rw [Try.underlying87]
  rw [run_equalIn_struct w 9999 87 _ _ hu (by kernel_rfl), hf]
  have p0 := run_part_plain (P := Try.prog) w (e := 9) (by kernel_rfl) (xs := (ent s k ids).toArray) (off := 0) (v := .string s) rfl
  have p1 := run_part_plain (P := Try.prog) w (e := 3) (by kernel_rfl) (xs := (ent s k ids).toArray) (off := 1) (v := .int .i64 k) rfl
  have p2 := part_id s k ids hl w
  have q2 := ids_eq9998 ids ids hl hl w
  have q0 : (Op.equalIn 9999 9 (.string s) (.string s)).run Try.prog w = .ok (s.toList == s.toList) w := run_equalIn_string w 9998 9 s s Try.underlying9
  have q1 : (Op.equalIn 9999 3 (.int .i64 k) (.int .i64 k)).run Try.prog w = .ok (k == k) w := run_equalIn_int w 9998 3 .i64 .i64 k k Try.underlying3
  rw [beq_self_eq_true] at q0 q1
  rw [decide_eq_true rfl] at q2
  generalize (ent s k ids).toArray = E at *
  generalize Value.agg (bv ids).toArray = V at *
  rw [← t0, ← o0] at p0
  rw [← t1, ← o1] at p1
  rw [← t2, ← o2] at p2
  rw [← t0] at q0
  rw [← t1] at q1
  rw [← t2] at q2
  exact fields3 n0 n1 n2 p0 p1 p2 q0 q1 q2

set_option maxRecDepth 100000 in
set_option maxHeartbeats 400000 in
theorem sameE_any (A : Option Addr) (n C : Nat) (A' : Option Addr) (C' : Nat) (es : List Fr.Ent) (w : World) (h : RdE w A n C es) (h' : RdE w A' n C' es) :
    Calls Try.prog 16 #[.slice A n C, .slice A' n C'] w fun e w' => e = .returned (.bool true) ∧ Below w.heap.size w w' := by
  have HR1 := Lib.hid h
  have HR2 := Lib.hid h'
  have hc1 := h.cap
  have hm1 := h.max
  have hc2 := h'.cap
  have hm2 := h'.max
  have hbig := h.big
  have HL := Lib.hid h.len
  have HB0 := Lib.hid (Below.refl w.heap.size w)
  clear h h'
  go_enter Try.func16, Try.ntmps16
  go_wp2_with fail
  go_loopw [5] (fun s wr => ∃ k : Nat, s = .int .i64 k ∧ k ≤ n ∧ Hid (RdE wr A n C es) ∧ Hid (RdE wr A' n C' es) ∧ Hid (Below w.heap.size w wr)) (fun s _ => n - (intOf s).toNat)
  case atStart => exact ⟨0, rfl, Nat.zero_le _, HR1, HR2, HB0⟩
  case round =>
    clear HR1 HR2 HB0
    obtain ⟨k, rfl, hk, HR1, HR2, HB⟩ := hrel
    by_cases hlt : k < n
    · obtain ⟨g, o, rfl, hg, hcc⟩ := HR1.out.cell (by omega)
      obtain ⟨g2, o2, rfl, hg2, hcc2⟩ := HR2.out.cell (by omega)
      have hok := (HR1.out.ok _ (getDE_mem (k := k) (by have := HL.out; omega))).1
      have hx1 := hcc k hlt
      have hx2 := hcc2 k hlt
      have hself := fun W => ent_self (es.getD k default).name (es.getD k default).kind (es.getD k default).id hok W
      have hen : (es.getD k default).cells = ent (es.getD k default).name (es.getD k default).kind (es.getD k default).id := rfl
      rw [hen] at hx1 hx2
      have hS1 : Hid ((Try.prog.info? 87).map (·.size) = some (ent (es.getD k default).name (es.getD k default).kind (es.getD k default).id).length) := Lib.hid (by rw [ent_length _ _ _ hok]; kernel_rfl)
      generalize ent (es.getD k default).name (es.getD k default).kind (es.getD k default).id = EL at *
      have HX1 := Lib.hid hx1
      have HX2 := Lib.hid hx2
      have hk0 : (0 : Int) ≤ (k : Int) := by omega
      have hk1 : (k : Int) < (n : Int) := by omega
      have hkn : k < n := hlt
      have HR1d : Hid (RdE wr.drew (some ⟨g, o, none⟩) n C es) := Lib.hid ⟨HR1.out.len, HR1.out.cap, HR1.out.max, HR1.out.big, HR1.out.ok, HR1.out.cell⟩
      have HR2d : Hid (RdE wr.drew (some ⟨g2, o2, none⟩) n C' es) := Lib.hid ⟨HR2.out.len, HR2.out.cap, HR2.out.max, HR2.out.big, HR2.out.ok, HR2.out.cell⟩
      have HBd := Lib.hid HB.out.drew
      clear hx1 hx2 hcc hcc2 hok hen HR1 HR2 HB hg hg2
      go_wp2_with fail
      refine wp_region_noPanic ?_
      refine wp_region_held_drew (S := (fun wS => wS.rangeAt g (o + k * 34) EL ∧ wS.rangeAt g2 (o2 + k * 34) EL)) (by kernel_rfl) ?_ (fun hHeld => ?_)
      · ((try dsimp only); exact ⟨HX1.out, HX2.out⟩)
      refine wpAnyH_take (i := 0) (oi := { dst := some 17, op := Op.move (Operand.tmp 0), type := 22, pos := "law.go:32", after := #[], guard := none }) (v := ?_) rfl (by kernel_rfl) (by kernel_rfl) (by kernel_rfl) (fun _ _ _ h => h) (Or.inl ⟨by rfl, ?_⟩) (by assumption) ?_
      rotate_left 1
      · ((intro w hSw; (try dsimp only at hSw); go_simp) <;> with_reducible rfl)
      (try simp only [Act.put, List.setIfInBounds_toArray, List.set_cons_zero, List.set_cons_succ])
      refine wpAnyH_take (i := 1) (oi := { dst := some 18, op := Op.move (Operand.tmp 5), type := 3, pos := "law.go:32", after := #[], guard := none }) (v := ?_) rfl (by kernel_rfl) (by kernel_rfl) (by kernel_rfl) (fun _ _ _ h => h) (Or.inl ⟨by rfl, ?_⟩) (by assumption) ?_
      rotate_left 1
      · ((intro w hSw; (try dsimp only at hSw); go_simp) <;> with_reducible rfl)
      (try simp only [Act.put, List.setIfInBounds_toArray, List.set_cons_zero, List.set_cons_succ])
      refine wpAnyH_take (i := 2) (oi := { dst := some 19, op := Op.indexAddr 22 (Operand.tmp 17) (Operand.tmp 18), type := 0, pos := "law.go:32", after := #[{ on := 0, ground := Ground.data }, { on := 1, ground := Ground.data }], guard := none }) (v := ?_) rfl (by kernel_rfl) (by kernel_rfl) (by kernel_rfl) (fun _ _ _ h => h) (Or.inl ⟨by rfl, ?_⟩) (by assumption) ?_
      rotate_left 1
      · ((intro w hSw; (try dsimp only at hSw); go_simp) <;> with_reducible rfl)
      (try simp only [Act.put, List.setIfInBounds_toArray, List.set_cons_zero, List.set_cons_succ])
      refine' wpAnyH_take (i := 3) (oi := { dst := some 20, op := Op.load 87 (Operand.tmp 19), type := 87, pos := "law.go:32", after := #[{ on := 2, ground := Ground.data }], guard := none }) (v := _) rfl (by kernel_rfl) (by kernel_rfl) (by kernel_rfl) (fun _ _ _ h => h) (yieldsIf_load_mid (by rfl) _ _ rfl _ _ rfl EL _ (fun w hSw => hSw.1) Try.underlying87 rfl hS1.out) (by assumption) ?_
      (try simp only [Act.put, List.setIfInBounds_toArray, List.set_cons_zero, List.set_cons_succ])
      refine wpAnyH_take (i := 4) (oi := { dst := some 21, op := Op.move (Operand.tmp 1), type := 22, pos := "law.go:32", after := #[], guard := none }) (v := ?_) rfl (by kernel_rfl) (by kernel_rfl) (by kernel_rfl) (fun _ _ _ h => h) (Or.inl ⟨by rfl, ?_⟩) (by assumption) ?_
      rotate_left 1
      · ((intro w hSw; (try dsimp only at hSw); go_simp) <;> with_reducible rfl)
      (try simp only [Act.put, List.setIfInBounds_toArray, List.set_cons_zero, List.set_cons_succ])
      refine wpAnyH_take (i := 5) (oi := { dst := some 22, op := Op.move (Operand.tmp 5), type := 3, pos := "law.go:32", after := #[], guard := none }) (v := ?_) rfl (by kernel_rfl) (by kernel_rfl) (by kernel_rfl) (fun _ _ _ h => h) (Or.inl ⟨by rfl, ?_⟩) (by assumption) ?_
      rotate_left 1
      · ((intro w hSw; (try dsimp only at hSw); go_simp) <;> with_reducible rfl)
      (try simp only [Act.put, List.setIfInBounds_toArray, List.set_cons_zero, List.set_cons_succ])
      refine wpAnyH_take (i := 6) (oi := { dst := some 23, op := Op.indexAddr 22 (Operand.tmp 21) (Operand.tmp 22), type := 0, pos := "law.go:32", after := #[{ on := 4, ground := Ground.data }, { on := 5, ground := Ground.data }], guard := none }) (v := ?_) rfl (by kernel_rfl) (by kernel_rfl) (by kernel_rfl) (fun _ _ _ h => h) (Or.inl ⟨by rfl, ?_⟩) (by assumption) ?_
      rotate_left 1
      · ((intro w hSw; (try dsimp only at hSw); go_simp) <;> with_reducible rfl)
      (try simp only [Act.put, List.setIfInBounds_toArray, List.set_cons_zero, List.set_cons_succ])
      refine' wpAnyH_take (i := 7) (oi := { dst := some 24, op := Op.load 87 (Operand.tmp 23), type := 87, pos := "law.go:32", after := #[{ on := 6, ground := Ground.data }], guard := none }) (v := _) rfl (by kernel_rfl) (by kernel_rfl) (by kernel_rfl) (fun _ _ _ h => h) (yieldsIf_load_mid (by rfl) _ _ rfl _ _ rfl EL _ (fun w hSw => hSw.2) Try.underlying87 rfl hS1.out) (by assumption) ?_
      (try simp only [Act.put, List.setIfInBounds_toArray, List.set_cons_zero, List.set_cons_succ])
      refine wpAnyH_take (i := 8) (oi := { dst := some 25, op := Op.binOp BinOp.neq 87 (Operand.tmp 20) (Operand.tmp 24) 87, type := 4, pos := "law.go:32", after := #[{ on := 3, ground := Ground.data }, { on := 7, ground := Ground.data }], guard := none }) (v := ?_) rfl (by kernel_rfl) (by kernel_rfl) (by kernel_rfl) (fun _ _ _ h => h) (Or.inl ⟨by rfl, ?_⟩) (by assumption) ?_
      rotate_left 1
      · ((intro w hSw; (try dsimp only at hSw); go_simp) <;> with_reducible rfl)
      (try simp only [Act.put, List.setIfInBounds_toArray, List.set_cons_zero, List.set_cons_succ])
      refine wpAnyH_done (by kernel_rfl) ?_ _
      refine NoPanic.normal ?_
      skip
      go_wp2_with fail
      go_roundw
      case rel => exact ⟨k + 1, by go_num, by omega, HR1d, HR2d, HBd⟩
      case measure => simp [intOf]; omega
    · have hd : decide ((k : Int) < (n : Int)) = false := by simp; omega
      have hd2 : ¬ k < n := hlt
      go_wp2_with fail
      go_ret
      exact ⟨rfl, HB.out⟩
end Go.Proofs.Ytmcmapgllaopmaa.Cd
end

section
/- Rows of entries: that came in, of one's own, copied; bytes of one's own as text. -/
namespace Go.Proofs.Ytmcmapgllaopmaa.Cd
open Go.RowKit
set_option linter.unusedVariables false

/-- entries that came in -/
theorem RdE.of_ents {w : World} {a : Option Addr} {n cap : Nat} {es : List Fr.Ent} (h : Fr.IsEnts w a n cap es) (hn : n ≤ 1000000) : RdE w a n cap es := by
  rcases h with ⟨rfl, rfl, rfl, rfl⟩ | ⟨x, rfl, hl, hc, hlen, hcell, hwf⟩
  · exact ⟨rfl, Nat.le_refl _, by omega, by omega, fun x hx => by simp at hx, fun h0 => absurd h0 (by omega)⟩
  · refine ⟨hlen, hl, by omega, hn, fun x hx => ⟨(hwf x hx).2.2.1, (hwf x hx).1⟩, fun h0 => ?_⟩
    have hc0 := hcell 0 h0 0 _ rfl
    obtain ⟨b, off, spot⟩ := x
    have hspot : spot = Option.none := by simpa [Addr.add] using World.cell?_spot hc0
    subst hspot
    refine ⟨b, off, rfl, by simpa [Addr.add] using block_lt_of_cell hc0, fun i hi j v hj => ?_⟩
    have := hcell i hi j v hj
    rw [Addr.add_mid, Addr.add_mid] at this
    exact this
theorem entsV_len : ∀ q : List Fr.Ent, (∀ x ∈ q, x.id.length = 32) → (entsV q).length = q.length * 34 := by
  intro q
  induction q with
  | nil => intro _; rfl
  | cons y q ih =>
    intro hq
    have h1 := ih (fun z hz => hq z (List.mem_cons_of_mem _ hz))
    have h2 := ent_len y (hq y (List.mem_cons_self ..))
    simp only [entsV, List.flatMap_cons, List.length_append, List.length_cons] at *
    omega
theorem entsV_get : ∀ (l : List Fr.Ent), (∀ x ∈ l, x.id.length = 32) → ∀ i j, i < l.length → j < 34 → (entsV l)[i * 34 + j]? = (l.getD i default).cells[j]?
  | [], _, i, j, hi, _ => absurd hi (by simp)
  | x :: l, h, 0, j, _, hj => by
    have hx := ent_len x (h x (List.mem_cons_self ..))
    rw [entsV, List.flatMap_cons, List.getElem?_append_left (by omega)]
    simp
  | x :: l, h, i + 1, j, hi, hj => by
    have hx := ent_len x (h x (List.mem_cons_self ..))
    rw [entsV, List.flatMap_cons, List.getElem?_append_right (by omega), show (i + 1) * 34 + j - x.cells.length = i * 34 + j by omega]
    exact entsV_get l (fun y hy => h y (List.mem_cons_of_mem _ hy)) i j (by simpa using hi) hj
/-- entries of one's own -/
theorem RdE.of_own {w : World} {B n : Nat} {Ae : Option Addr} {Ce : Nat} {es : List Fr.Ent} (h : w.ownsRow B 87 34 (.slice Ae n Ce) n (entsV es)) (hid : ∀ x ∈ es, x.id.length = 32 ∧ x.name.size ≤ 140737488351232) (hn : n ≤ 1000000) (he : es.length = n) : RdE w Ae n Ce es := by
  rcases h.2 with ⟨hv, hz⟩ | ⟨g, cap, cur, hv, hb, hg, hnc, hcm, hcs, htake⟩
  · simp only [Value.slice.injEq] at hv
    obtain ⟨rfl, -, rfl⟩ := hv
    subst hz
    exact ⟨he, Nat.le_refl _, by omega, by omega, hid, fun h => absurd h (by omega)⟩
  · simp only [Value.slice.injEq, true_and] at hv
    obtain ⟨rfl, rfl⟩ := hv
    refine ⟨he, hnc, hcm, hn, hid, fun h0 => ⟨g, 0, rfl, ?_, fun i hi j v hj => ?_⟩⟩
    · rcases Nat.lt_or_ge g w.heap.size with h | h
      · exact h
      · rw [Array.getElem?_eq_none h] at hg; simp at hg
    · have hx := ent_len (es.getD i default) (hid _ (getDE_mem (by omega))).1
      have hj2 : j < 34 := by have := (List.getElem?_eq_some_iff.1 hj).1; omega
      rw [Nat.zero_add, World.ownsRow.cellAt h _ (by omega), entsV_get es (fun x hx => (hid x hx).1) i j (by omega) hj2]
      exact hj
/-- entries are laid behind a row of one's own -/
theorem wpList_append_ents (w : World) {ops : Array Oper} {rest : List Oper} {o : Oper} {a : Act} {Q : Exit → Act → World → Prop} (hgd : o.guard = none) (s x : Operand)
    (ho : o.op = .call { callee := .builtin .append, args := #[s, x], argTypes := #[22, 22] })
    (B : Nat) (v : Value) (n : Nat) (d : List Fr.Ent) (hs : a.eval s = v) (hown : w.ownsRow B 87 34 v n (entsV d))
    (A : Option Addr) (m c : Nat) (l : List Fr.Ent) (hx : a.eval x = .slice A m c) (hsl : RdE w A m c l) (hnone : A = none → m = 0 ∧ c = 0)
    (hn : n ≤ 1000000) (hbase : B ≤ w.heap.size)
    (h : ∀ A' C' w', w'.ownsRow B 87 34 (.slice A' (n + m) C') (n + m) (entsV (d ++ l)) → w.grownBy w' v.ownBlock → wpList Try.prog ops Q rest (a.put o.dst (.slice A' (n + m) C')) w') : wpList Try.prog ops Q (o :: rest) a w := by
  refine wpList_plain hgd fun K hK => ?_
  obtain ⟨i0, hi, hz0, hz1, hz2⟩ := info_parts info87
  have hbig := hsl.big
  have hll := hsl.len
  have key : ∃ A' C' w', (Builtin.append_ #[22, 22] o.type #[v, .slice A m c]).run Try.prog w = .ok (.slice A' (n + m) C') w' ∧ w'.ownsRow B 87 34 (.slice A' (n + m) C') (n + m) (entsV (d ++ l)) ∧ w.grownBy w' v.ownBlock := by
    cases hA : A with
    | none =>
      obtain ⟨hm, hc⟩ := hnone hA
      subst hm hc
      obtain rfl : l = [] := List.eq_nil_of_length_eq_zero hll
      obtain ⟨A', C', rfl⟩ := own_slice' hown
      refine ⟨A', C', w, run_append_owned_none (P := Try.prog) w B 22 o.type 87 i0 34 Try.underlying22 hi _ _ _ hown, ?_, World.grownBy.refl w _⟩
      rw [List.append_nil]
      exact hown
    | some y =>
      have hok := fun z hz => (hsl.ok z hz).1
      have hel := entsV_len l hok
      have hnw : ∀ j u, (entsV l)[j]? = some u → w.cell? (y.add j) = some u := by
        intro j u hj
        have hj1 := (List.getElem?_eq_some_iff.1 hj).1
        obtain ⟨g, o2, h1, h2, h3⟩ := hsl.cell (by omega)
        rw [hA] at h1
        obtain rfl := Option.some.inj h1
        have e1 : j = j / 34 * 34 + j % 34 := by omega
        rw [e1, entsV_get l hok (j / 34) (j % 34) (by omega) (by omega)] at hj
        have h4 := h3 (j / 34) (by omega) (j % 34) u hj
        rw [Addr.add_mid]
        rw [show o2 + j / 34 * 34 + j % 34 = o2 + j by omega] at h4
        exact h4
      obtain ⟨v', w', hr, h2, h3, h4⟩ := run_append_own (P := Try.prog) w B 22 o.type 87 i0 (.agg (ent ByteArray.empty 0 (List.replicate 32 0)).toArray) 34 56 Try.underlying22 hi hz0 hz1 hz2 (by simp [Value.cells, ent, bv]) (by decide) v n (entsV d) hown y m c (entsV l) (by rw [hel, hll]) hnw (fun u hu => by
        obtain ⟨z, hz, hu2⟩ := List.mem_flatMap.1 hu
        exact ent_one z u hu2) (by unfold maxLen; omega) (by omega) hbase
      obtain ⟨A', C', rfl⟩ := own_slice' h2
      exact ⟨A', C', w', hr, by rw [show entsV (d ++ l) = entsV d ++ entsV l from by simp [entsV]]; exact h2, h3⟩
  obtain ⟨A', C', w', hr, h2, h3⟩ := key
  unfold Oper.wp execOp
  simp only [ho, resolve, invoke, builtin, Sem.run_bind, Sem.run_pure, Result.andThen_ok, List.map_toArray, List.map_cons, List.map_nil, hs, hx, hr]
  exact hK _ _ (h A' C' w' h2 h3)
/-- bytes of one's own as a text -/
theorem conv_own' {w : World} {B n : Nat} {v : Value} {l : List Int} (h : w.ownsRow B 5 1 v n (bv l)) : (convert 23 9 v).run Try.prog w = .ok (.string (sb l)) w := by
  have hl : l.length = n := by have := h.1; simpa [bv] using this
  rcases h.2 with ⟨rfl, rfl⟩ | ⟨g, cap, cur, rfl, hg, hh, hc1, hc2, hc3, ht⟩
  · obtain rfl : l = [] := List.eq_nil_of_length_eq_zero hl
    exact Lib.run_convert_nil_bytes w _ _ 5 0 Try.underlying23 Try.underlying5 Try.underlying9
  · have := conv_own h n (Nat.le_refl _)
    rw [List.take_of_length_le (by omega)] at this
    exact this
theorem RdE.nil (w : World) : RdE w none 0 0 [] := ⟨rfl, Nat.le_refl _, by omega, by omega, fun x hx => by simp at hx, fun h => absurd h (by omega)⟩
end Go.Proofs.Ytmcmapgllaopmaa.Cd
end
