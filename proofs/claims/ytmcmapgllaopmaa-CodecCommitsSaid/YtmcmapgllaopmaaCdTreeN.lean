/- codec.EncodeTree at any entries. -/
import Derived.Test.YtmcmapgllaopmaaCdKeep
import Derived.Test.YtmcmapgllaopmaaFrEnts
namespace Go.Proofs.Ytmcmapgllaopmaa.Cd
open Go.RowKit
set_option linter.unusedVariables false

/-- a row of entries that is read -/
structure RdE (w : World) (A : Option Addr) (n C : Nat) (es : List Fr.Ent) : Prop where
  len : es.length = n
  cap : n ≤ C
  max : C ≤ 9223372036854775807
  big : n ≤ 1000000
  ok : ∀ x ∈ es, x.id.length = 32 ∧ x.name.size ≤ 140737488351232
  cell : 0 < n → ∃ g o, A = some ⟨g, o, Option.none⟩ ∧ g < w.heap.size ∧ ∀ i, i < n → w.rangeAt g (o + i * 34) (es.getD i default).cells
theorem RdE.below {w w' : World} {A : Option Addr} {n C : Nat} {es : List Fr.Ent} (h : RdE w A n C es) (hb : Below w.heap.size w w') : RdE w' A n C es :=
  ⟨h.len, h.cap, h.max, h.big, h.ok, fun h0 => by
    obtain ⟨g, o, h1, h2, h3⟩ := h.cell h0
    exact ⟨g, o, h1, Nat.lt_of_lt_of_le h2 hb.size, fun i hi => range_below hb (h3 i hi) h2⟩⟩
theorem RdE.belowB {w w' : World} {A : Option Addr} {n C B : Nat} {es : List Fr.Ent} (h : RdE w A n C es) (hb : Below B w w') (hA : ∀ x, A = some x → 0 < n → x.block < B) : RdE w' A n C es :=
  ⟨h.len, h.cap, h.max, h.big, h.ok, fun h0 => by
    obtain ⟨g, o, h1, h2, h3⟩ := h.cell h0
    have hg := hA _ h1 h0
    exact ⟨g, o, h1, Nat.lt_of_lt_of_le h2 hb.size, fun i hi => range_below hb (h3 i hi) hg⟩⟩
theorem getDE_mem {es : List Fr.Ent} {k : Nat} (h : k < es.length) : es.getD k default ∈ es := by
  rw [List.getD_eq_getElem?_getD, List.getElem?_eq_getElem h]; exact List.getElem_mem h
theorem take_snoc (es : List Fr.Ent) (k : Nat) (hk : k < es.length) : es.take (k + 1) = es.take k ++ [es.getD k default] := by
  rw [List.take_succ_eq_append_getElem hk]
  congr 2
  simp [List.getD, hk]
theorem lastN_take (es : List Fr.Ent) (k : Nat) (hk : k < es.length) : lastN (es.take (k + 1)) = some (es.getD k default).name := by
  rw [take_snoc es k hk, lastN, List.getLast?_concat]
  rfl
/-- what lies ahead of the k-th -/
theorem RdE.ahd {w : World} {A : Option Addr} {n C : Nat} {es : List Fr.Ent} (h : RdE w A n C es) (k : Nat) (hk : k < n) : Ahd w A k C (lastN (es.take k)) := by
  have hc := h.cap
  have hbg := h.big
  have hl := h.len
  refine ⟨by omega, h.max, by omega, fun h0 => by subst h0; rfl, fun h0 => ?_⟩
  obtain ⟨g, o, h1, h2, h3⟩ := h.cell (by omega)
  obtain ⟨j, rfl⟩ : ∃ j, k = j + 1 := ⟨k - 1, by omega⟩
  refine ⟨g, o, (es.getD j default).name, h1, ?_, ?_, h2⟩
  · exact lastN_take es j (by omega)
  · have := h3 j (by omega) 0 _ rfl
    rw [Nat.add_zero] at this
    exact this

theorem own_drew {w : World} {B e sz n : Nat} {v : Value} {xs : List Value} (h : w.ownsRow B e sz v n xs) : w.drew.ownsRow B e sz v n xs := h
/-- why some entries may not stand behind one -/
def eF : List Fr.Ent → Option ByteArray → Int
  | [], _ => 0
  | x :: r, prev => if ce x.kind x.name x.id prev = 0 then eF r (some x.name) else ce x.kind x.name x.id prev
/-- a text's bytes -/
def sv (s : ByteArray) : List Int := s.data.toList.map (fun b => (b.toNat : Int))
theorem sv_len (s : ByteArray) : (sv s).length = s.size := by simp [sv]
theorem sv_cells (s : ByteArray) : bv (sv s) = Lib.strCells s := by simp [bv, sv, Lib.strCells]
/-- an entry's bytes -/
def eB1 (x : Fr.Ent) : List Int := x.kind :: (x.name.size : Int) :: (sv x.name ++ x.id)
def eB (es : List Fr.Ent) : List Int := es.flatMap eB1
def eE (es : List Fr.Ent) : Int := if 512 < es.length then 4 else eF es none

/-- what EncodeTree hands back -/
def EtRet (es : List Fr.Ent) (w : World) (e : Ending) (w' : World) : Prop :=
  Below w.heap.size w w' ∧
  ((eE es ≠ 0 ∧ e = .returned (.tuple #[.slice none 0 0, .int .i64 (eE es)])) ∨
   (eE es = 0 ∧ ∃ v, e = .returned (.tuple #[v, .int .i64 0]) ∧ w'.ownsRow w.heap.size 5 1 v (eB es).length (bv (eB es))))

theorem eF_step (es : List Fr.Ent) (k : Nat) (hk : k < es.length) : eF (es.drop k) (lastN (es.take k)) = if ce (es.getD k default).kind (es.getD k default).name (es.getD k default).id (lastN (es.take k)) = 0 then eF (es.drop (k + 1)) (lastN (es.take (k + 1))) else ce (es.getD k default).kind (es.getD k default).name (es.getD k default).id (lastN (es.take k)) := by
  have hx : es.getD k default = es[k] := by simp [List.getD, hk]
  rw [List.drop_eq_getElem_cons hk, eF, ← hx, lastN_take es k hk]
theorem eB_step (es : List Fr.Ent) (k : Nat) (hk : k < es.length) : eB (es.take (k + 1)) = eB (es.take k) ++ eB1 (es.getD k default) := by
  unfold eB
  rw [take_snoc es k hk, List.flatMap_append]
  simp only [List.flatMap_cons, List.flatMap_nil, List.append_nil]
theorem ce_zero {k : Int} {nm : ByteArray} {ids : List Int} {prev : Option ByteArray} (h : ce k nm ids prev = 0) : 1 ≤ k ∧ k ≤ 4 ∧ NmOk nm := by
  unfold ce at h
  by_cases h1 : k < 1 ∨ 4 < k
  · rw [if_pos h1] at h; exact absurd h (by decide)
  · rw [if_neg h1] at h
    by_cases h2 : ¬ NmOk nm
    · rw [if_pos h2] at h; exact absurd h (by decide)
    · exact ⟨by omega, by omega, Classical.not_not.1 h2⟩

set_option maxRecDepth 100000 in
set_option maxHeartbeats 1000000 in
theorem encodeTree_any (A : Option Addr) (n C : Nat) (es : List Fr.Ent) (w : World) (h : RdE w A n C es) :
    Calls Try.prog 12 #[.slice A n C] w (EtRet es w) := by
  obtain ⟨i0, hi, hz0, hz1, hz2⟩ := info_parts info5
  have hzE := zeroE
  have hl := h.len
  have hcap := h.cap
  have hmax := h.max
  have hbig := h.big
  have HRd := Lib.hid h
  have HLt : Hid (∀ x, A = some x → 0 < n → x.block < w.heap.size) := Lib.hid (fun x hx h0 => by
    obtain ⟨g, o, h1, h2, -⟩ := h.cell h0
    rw [h1] at hx
    obtain rfl := Option.some.inj hx
    exact h2)
  have HB0 := Lib.hid (Below.refl w.heap.size w)
  clear h
  by_cases hgt : 512 < n
  · have HE : Hid (eE es = 4) := Lib.hid (by unfold eE; rw [if_pos (by omega)])
    have hd : decide ((512 : Int) < (n : Int)) = true := by simp; omega
    go_enter Try.func12, Try.ntmps12
    go_wp2_with fail
    go_ret2
    exact ⟨HB0.out, .inl ⟨by rw [HE.out]; decide, by rw [HE.out]; rfl⟩⟩
  · have HE : Hid (eE es = eF es none) := Lib.hid (by unfold eE; rw [if_neg (by omega)])
    have hd : decide ((512 : Int) < (n : Int)) = false := by simp; omega
    generalize hZE : (ent ByteArray.empty 0 (List.replicate 32 0)).toArray = ZE at *
    have hZs : ZE.size = 34 := by rw [← hZE, List.size_toArray, ent_length _ _ _ (by simp)]
    have HZs := Lib.hid hZs
    clear hZE hZs
    go_enter Try.func12, Try.ntmps12
    go_wp2_with fail
    go_loopw [4, 13] (fun b i wr => ∃ (k : Nat), i = .int .i64 k ∧ k ≤ n ∧ Hid (eF (es.drop k) (lastN (es.take k)) = eF es none) ∧ Hid (wr.ownsRow w.heap.size 5 1 b (eB (es.take k)).length (bv (eB (es.take k)))) ∧ (eB (es.take k)).length ≤ k * 100 ∧ Hid (RdE wr A n C es) ∧ Hid (Below w.heap.size w wr)) (fun _ i _ => n - (intOf i).toNat)
    case atStart => exact ⟨0, rfl, Nat.zero_le _, Lib.hid rfl, Lib.hid ⟨rfl, .inl ⟨rfl, rfl⟩⟩, Nat.zero_le _, HRd, HB0⟩
    case round =>
      clear HRd HB0
      obtain ⟨k, rfl, hk, HF, HO, hlen, HRd, HB⟩ := hrel
      by_cases hlt : k < n
      · obtain ⟨g, o, rfl, hgl, hcc⟩ := HRd.out.cell (by omega)
        have HAh := Lib.hid (HRd.out.ahd k hlt)
        have hst := eF_step es k (by omega)
        rw [HF.out] at hst
        have hbs := eB_step es k (by omega)
        have hok := HRd.out.ok _ (getDE_mem (k := k) (by omega))
        obtain ⟨nm, hnm⟩ : ∃ nm, nm = (es.getD k default).name := ⟨_, rfl⟩
        obtain ⟨kd, hK⟩ : ∃ kd, kd = (es.getD k default).kind := ⟨_, rfl⟩
        obtain ⟨ids, hids⟩ : ∃ ids, ids = (es.getD k default).id := ⟨_, rfl⟩
        obtain ⟨prev, hprev⟩ : ∃ prev, prev = lastN (es.take k) := ⟨_, rfl⟩
        have HXc : Hid (wr.rangeAt g (o + k * 34) (ent nm kd ids)) := Lib.hid (by rw [hnm, hK, hids]; exact hcc k hlt)
        have he1 : eB1 (es.getD k default) = kd :: (nm.size : Int) :: (sv nm ++ ids) := by rw [hnm, hK, hids]; rfl
        rw [he1] at hbs
        rw [← hnm, ← hids] at hok
        rw [← hnm, ← hK, ← hids, ← hprev] at hst
        rw [← hprev] at HAh
        have HIl := Lib.hid hok.1
        have Hsz : Hid (nm.size ≤ 140737488355327) := Lib.hid (Nat.le_trans hok.2 (by decide))
        have HES : Hid ((Try.prog.info? 87).map (·.size) = some (ent nm kd ids).length) := Lib.hid (by rw [ent_length nm kd ids HIl.out]; kernel_rfl)
        have HBs := Lib.hid hbs
        have HSt := Lib.hid hst
        have hxr := row_new wr ZE 87
        rw [HZs.out] at hxr
        have HTh := Lib.hid (en_there hxr 0 (ent nm kd ids).toArray.size (by rw [List.size_toArray, ent_length nm kd ids HIl.out]; decide))
        have HSz : Hid ((Try.prog.info? 87).map (·.size) = some (ent nm kd ids).toArray.size) := Lib.hid (by rw [List.size_toArray]; exact HES.out)
        have HOne := Lib.hid (all_oneCell_toArray (ent_one' nm kd ids))
        have HX4 := Lib.hid (en_start hxr nm kd ids HIl.out)
        have hb4 := below_cells (Nat.le_refl wr.heap.size) (ent nm kd ids) 0 _ ((Below.refl wr.heap.size wr).alloc (Nat.le_refl _) (.cells ZE 87))
        have hwr : w.heap.size ≤ wr.heap.size := HB.out.size
        have HRd4 := Lib.hid (HRd.out.below hb4)
        have HO4 := Lib.hid (own_keep HO.out hb4)
        have HB4 := Lib.hid (HB.out.trans (hb4.mono hwr))
        have HAh4 : Hid (Ahd ((wr.alloc (.cells ZE 87)).setCells wr.heap.size 0 (ent nm kd ids)) (some ⟨g, o, none⟩) k C prev) := Lib.hid (by
          have := HRd4.out.ahd k hlt
          rw [← hprev] at this
          exact this)
        have hk0 : (0 : Int) ≤ (k : Int) := by omega
        have hk1 : (k : Int) < (n : Int) := by omega
        clear hxr hb4 HRd HO HB HAh hst hbs he1 hok hcc hnm hK hids hprev
        go_upto_region 7 with (first
          | (refine wpList_load_mid rfl _ _ rfl g (o + k * 34) rfl (ent nm kd ids) _ HXc.out Try.underlying87 rfl HES.out ?_)
          | (refine wpList_store_mid rfl _ _ _ rfl wr.heap.size 0 (ent nm kd ids).toArray rfl rfl HTh.out HSz.out HOne.out ?_))
        change Code.wp _ _ _ _ ((wr.alloc (.cells ZE 87)).setCells wr.heap.size 0 (ent nm kd ids))
        have hXs4 : wr.heap.size < ((wr.alloc (.cells ZE 87)).setCells wr.heap.size 0 (ent nm kd ids)).heap.size := HX4.out.lt
        clear HTh HSz HOne HXc hgl
        generalize (wr.alloc (.cells ZE 87)).setCells wr.heap.size 0 (ent nm kd ids) = w4 at *
        generalize wr.heap.size = X at *
        have dX := Lib.hid ((World.rangeAt_drew _ _ _ _).2 (en_range HX4.out HIl.out))
        have hXs : X < w4.drew.heap.size := hXs4
        have HAh : Hid (Ahd w4.drew (some ⟨g, o, none⟩) k C prev) := Lib.hid ⟨HAh4.out.cap, HAh4.out.max, HAh4.out.big, HAh4.out.none, HAh4.out.last⟩
        have HRd5 : Hid (RdE w4.drew (some ⟨g, o, none⟩) n C es) := Lib.hid ⟨HRd4.out.len, HRd4.out.cap, HRd4.out.max, HRd4.out.big, HRd4.out.ok, HRd4.out.cell⟩
        have HO5 := Lib.hid (own_drew HO4.out)
        have HB5 := Lib.hid HB4.out.drew
        have dXr := Lib.hid (World.rowIs.drew HX4.out)
        have dE := HES.out
        have hkC : k ≤ C := by omega
        have hkC2 : (k : Int) ≤ (C : Int) := by omega
        clear HAh4 HRd4 HO4 HB4 HX4 hXs4
        refine wp_region_noPanic ?_
        refine wp_region_held_drew (S := (fun wS => wS.rangeAt X 0 (ent nm kd ids))) (by kernel_rfl) ?_ (fun hHeld => ?_)
        · ((try dsimp only); exact dX.out)
        refine' wpAnyH_take (i := 0) (oi := { dst := some 18, op := Op.load 87 (Operand.tmp 6), type := 87, pos := "tree.go:12", after := #[], guard := none }) (v := _) rfl (by kernel_rfl) (by kernel_rfl) (by kernel_rfl) (fun _ _ _ h => h) (yieldsIf_load_mid (by rfl) _ _ rfl _ _ rfl (ent nm kd ids) _ (fun w hSw => hSw) Try.underlying87 rfl HES.out) (by assumption) ?_
        (try simp only [Act.put, List.setIfInBounds_toArray, List.set_cons_zero, List.set_cons_succ])
        refine wpAnyH_take (i := 1) (oi := { dst := some 19, op := Op.move (Operand.tmp 0), type := 22, pos := "tree.go:12", after := #[], guard := none }) (v := ?_) rfl (by kernel_rfl) (by kernel_rfl) (by kernel_rfl) (fun _ _ _ h => h) (Or.inl ⟨by rfl, ?_⟩) (by assumption) ?_
        rotate_left 1
        · ((intro w hSw; (try dsimp only at hSw); go_simp) <;> with_reducible rfl)
        (try simp only [Act.put, List.setIfInBounds_toArray, List.set_cons_zero, List.set_cons_succ])
        refine wpAnyH_take (i := 2) (oi := { dst := some 20, op := Op.move (Operand.tmp 5), type := 3, pos := "tree.go:12", after := #[], guard := none }) (v := ?_) rfl (by kernel_rfl) (by kernel_rfl) (by kernel_rfl) (fun _ _ _ h => h) (Or.inl ⟨by rfl, ?_⟩) (by assumption) ?_
        rotate_left 1
        · ((intro w hSw; (try dsimp only at hSw); go_simp) <;> with_reducible rfl)
        (try simp only [Act.put, List.setIfInBounds_toArray, List.set_cons_zero, List.set_cons_succ])
        refine wpAnyH_take (i := 3) (oi := { dst := some 21, op := Op.slice 22 (Operand.tmp 19) none (some (Operand.tmp 20)) none, type := 22, pos := "tree.go:12", after := #[{ on := 1, ground := Ground.data }, { on := 2, ground := Ground.data }], guard := none }) (v := ?_) rfl (by kernel_rfl) (by kernel_rfl) (by kernel_rfl) (fun _ _ _ h => h) (Or.inl ⟨by rfl, ?_⟩) (by assumption) ?_
        rotate_left 1
        · ((intro w hSw; (try dsimp only at hSw); go_simp) <;> with_reducible rfl)
        (try simp only [Act.put, List.setIfInBounds_toArray, List.set_cons_zero, List.set_cons_succ])
        refine wpAnyH_ready (rs := [4]) (by kernel_rfl) (by simp) ?_
        refine AllReadyH.cons (o := { dst := some 22, op := Op.call { callee := Callee.value (Operand.func 40), args := #[Operand.tmp 18, Operand.tmp 21], argTypes := #[87, 22] }, type := 25, pos := "tree.go:12", after := #[{ on := 0, ground := Ground.data }, { on := 3, ground := Ground.data }], guard := none }) rfl (fun K hK => ?_) ?_
        · go_simp
          refine (check_any nm kd ids HIl.out Hsz.out (some ⟨g, o, none⟩) k C prev _ HAh.out).mono ?_
          rintro e w7 ⟨rfl, hb7⟩
          have eX := Lib.hid (range_below hb7 dX.out hXs)
          have eXr := Lib.hid (World.rowIs.of_block dXr.out (hb7.block X hXs))
          have dR := Lib.hid (HRd5.out.below hb7)
          have dO := Lib.hid (own_keep HO5.out hb7)
          have dB := Lib.hid (HB5.out.trans (hb7.mono (by omega)))
          have hXs7 : X < w7.heap.size := Nat.lt_of_lt_of_le hXs hb7.size
          clear dX dXr hb7
          have dX := eX
          have dXr := eXr
          clear eX eXr
          (try go_wp2_with fail)
          refine hK.out _ _ ?_ (fun hNew => ?_)
          · ((try dsimp only); exact dX.out)
          clear hK K hHeld
          have hHeld := hNew
          clear hNew
          (try simp only [Act.put, List.setIfInBounds_toArray, List.set_cons_zero, List.set_cons_succ])
          refine wpAnyH_take (i := 5) (oi := { dst := some 7, op := Op.assign (Operand.tmp 22), type := 25, pos := "tree.go:12", after := #[{ on := 4, ground := Ground.data }, { on := 4, ground := Ground.chain }, { on := 0, ground := Ground.phase }, { on := 1, ground := Ground.phase }, { on := 2, ground := Ground.phase }, { on := 3, ground := Ground.phase }, { on := 4, ground := Ground.phase }], guard := none }) (v := ?_) rfl (by kernel_rfl) (by kernel_rfl) (by kernel_rfl) (fun _ _ _ h => h) (Or.inl ⟨by rfl, ?_⟩) (by assumption) ?_
          rotate_left 1
          · ((intro w hSw; (try dsimp only at hSw); go_simp) <;> with_reducible rfl)
          (try simp only [Act.put, List.setIfInBounds_toArray, List.set_cons_zero, List.set_cons_succ])
          refine wpAnyH_done (by kernel_rfl) ?_ _
          refine NoPanic.normal ?_
          clear hHeld
          obtain ⟨E, hE⟩ : ∃ E, E = ce kd nm ids prev := ⟨_, rfl⟩
          have hst := HSt.out
          rw [← hE] at hst ⊢
          by_cases h0 : E = 0
          · have hE0 : (E != 0) = false := by simp [h0]
            have hcz := ce_zero (hE.symm.trans h0)
            rw [if_pos h0] at hst
            have HF2 := Lib.hid hst.symm
            have hk1' := hcz.1
            have hk4' := hcz.2.1
            have hn40 : nm.size ≤ 40 := by have := hcz.2.2.2.1; omega
            have hwK : IntKind.u8.wrap kd = kd := IntWalk.u8_in _ (by omega)
            obtain ⟨hc0, hc1, hr2⟩ := range_ent dX.out
            have HR2 := Lib.hid hr2
            have HC0 := Lib.hid hc0
            have hszw := dB.out.size
            have hE00 : E = 0 := h0
            clear hE hst hcz hc0 hr2 dX h0 HSt hE00
            go_wp2_with (at_builtin; refine wpList_append_own _ rfl _ _ 23 rfl w.heap.size 5 i0 (.int .u8 0) 1 1 Try.underlying23 hi hz0 hz1 hz2 rfl (by decide) _ _ _ rfl (own_keep dO.out ((Below.refl w7.heap.size w7).alloc (Nat.le_refl _) (.cells (bv [kd]).toArray 5))) ⟨w7.heap.size, 0, none⟩ 1 1 (bv [kd]) rfl rfl ?c1 (bv_one _) ?c3 ?c4 ?c5 ?_)
            case c1 => exact new_cells [kd] w7 _
            case c3 => unfold maxLen; omega
            case c4 => omega
            case c5 => exact Nat.le_trans hszw (al_le w7 _)
            intro v8 w8 ho8 hg8 hnil8
            have hb78 : Below w.heap.size w7 w8 := ((Below.refl w.heap.size w7).alloc hszw (.cells (bv [kd]).toArray 5)).trans (below_grown (Nat.le_trans hszw (al_le w7 _)) (own_keep dO.out ((Below.refl w7.heap.size w7).alloc (Nat.le_refl _) (.cells (bv [kd]).toArray 5))) hg8)
            have hk78 : KeptT w7 w8 := KeptT.trans (al_le w7 _) (KeptT.alloc w7 _) (KeptT.own (own_keep dO.out ((Below.refl w7.heap.size w7).alloc (Nat.le_refl _) (.cells (bv [kd]).toArray 5))) hg8)
            have HB8 := Lib.hid (dB.out.trans hb78)
            have HX8 := Lib.hid (hk78.row dXr.out (by decide))
            have HRd8 := Lib.hid (dR.out.belowB hb78 HLt.out)
            have HO8 := Lib.hid ho8
            have hszw8 : w.heap.size ≤ w8.heap.size := HB8.out.size
            have hc8 : w8.cell? ⟨X, 0, none⟩ = some (.string nm) := HX8.out.cell (i := 0) (by omega)
            clear ho8 hg8 hnil8 hb78 hk78 hc1 dO dB dR dXr HC0 HR2 hszw
            have HTk := Lib.hid (text_k w.heap.size v8 _ _ nm 1 w8 hszw8 HO8.out (by omega) (by omega) (by omega))
            rw [show ((1 : Nat) : Int) = 1 from rfl] at HTk
            go_wp2_with fail
            refine HTk.out.mono ?_
            rintro e w9 ⟨v9, rfl, ho9, hb9, hk9⟩
            have HB9 := Lib.hid (HB8.out.trans hb9)
            have HX9 := Lib.hid (hk9.row HX8.out (by decide))
            have HRd9 := Lib.hid (HRd8.out.belowB hb9 HLt.out)
            have HO9 := Lib.hid ho9
            have hszw9 : w.heap.size ≤ w9.heap.size := HB9.out.size
            have HI9 : Hid (∀ j u, (bv ids)[j]? = some u → w9.cell? (Addr.add ⟨X, 2, none⟩ j) = some u) := Lib.hid (fun j u hj => by
              have hl := (List.getElem?_eq_some_iff.1 hj).1
              rw [bv_len, HIl.out] at hl
              rw [Addr.add_mid, HX9.out.cell (show 2 + j < 34 by omega), ← hj, Nat.add_comm]
              show some (Value.int .u8 (ids.getD j 0)) = _
              simp [bv, List.getD, show j < ids.length by have := HIl.out; omega])
            clear ho9 hb9 hk9 HTk HB8 HX8 HRd8 HO8 hc8 hszw8
            go_wp2_with (at_builtin; refine wpList_append_own _ rfl _ _ 23 rfl w.heap.size 5 i0 (.int .u8 0) 1 1 Try.underlying23 hi hz0 hz1 hz2 rfl (by decide) _ _ _ rfl HO9.out ⟨X, 2, none⟩ 32 32 (bv ids) rfl (by rw [bv_len, HIl.out]) HI9.out (bv_one _) ?d3 ?d4 ?d5 ?_)
            case d3 => unfold maxLen; omega
            case d4 => omega
            case d5 => exact hszw9
            intro v10 w10 ho10 hg10 hnil10
            have hb910 := below_grown hszw9 HO9.out hg10
            have hbe : be 1 (nm.size : Int) = [(nm.size : Int)] := by
              simp only [be]
              congr 1
              omega
            have HLn2 : Hid ((eB (es.take (k + 1))).length = (eB (es.take k)).length + 1 + 1 + nm.size + 32) := Lib.hid (by rw [HBs.out]; simp [sv_len, HIl.out]; omega)
            have HO10 := Lib.hid (own_eq (ys := bv (eB (es.take (k + 1)))) (m := (eB (es.take (k + 1))).length) ho10 (by rw [HBs.out, hbe, ← sv_cells]; simp [bv]) (by rw [HLn2.out]))
            have HB10 := Lib.hid (HB9.out.trans hb910)
            have HRd10 := Lib.hid (HRd9.out.belowB hb910 HLt.out)
            clear ho10 hg10 hnil10 hb910 HO9 HB9 HX9 HRd9 HI9
            go_wp2_with fail
            go_roundw
            case rel => exact ⟨k + 1, by go_num, by omega, HF2, HO10, by have := HLn2.out; omega, HRd10, HB10⟩
            case measure => simp [intOf]; omega
          · have hE0 : (E != 0) = true := by simp [h0]
            rw [if_neg h0] at hst
            have HE2 := Lib.hid (HE.out.trans hst)
            have H0 := Lib.hid h0
            clear hE hst h0
            go_wp2_with fail
            go_ret2
            exact ⟨dB.out, .inl ⟨by rw [HE2.out]; exact H0.out, by rw [HE2.out]; rfl⟩⟩
        exact AllReadyH.nil
      · have ek : k = n := by omega
        have hd2 : decide ((k : Int) < (n : Int)) = false := by simp; omega
        have HF2 : Hid (eF es none = 0) := Lib.hid (by
          have h := HF.out
          rw [ek, List.drop_of_length_le (by omega)] at h
          exact h.symm)
        have HO2 : Hid (wr.ownsRow w.heap.size 5 1 _ (eB es).length (bv (eB es))) := Lib.hid (by
          have h := HO.out
          rw [ek, List.take_of_length_le (by omega)] at h
          exact h)
        clear HF HO HRd hlen
        go_wp2_with fail
        go_ret2
        exact ⟨HB.out, .inr ⟨by rw [HE.out, HF2.out], _, rfl, HO2.out⟩⟩
end Go.Proofs.Ytmcmapgllaopmaa.Cd
