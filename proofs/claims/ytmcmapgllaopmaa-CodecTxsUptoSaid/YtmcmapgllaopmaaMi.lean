/- Texts of one's own, merged: CdRSeq, CdRETx, CdETx. -/
import Derived.Test.YtmcmapgllaopmaaMh

section
namespace Go.Proofs.Ytmcmapgllaopmaa.Cd
open Go.RowKit
set_option linter.unusedVariables false
theorem Bs.drew {w0 : World} {B X : Nat} {t : TypeId} {sz : Nat} {CM : List Value} {wc : World} {v : Value} {n : Nat} {E : List Int} (h : Bs w0 B X t sz CM wc v n E) : Bs w0 B X t sz CM wc.drew v n E :=
  ⟨own_drew h.own, h.row.drew, h.bel.drew, h.kpt.trans h.bel.size (fun _ _ _ => rfl), h.bas⟩
theorem be_one (x : Int) (h0 : 0 ≤ x) (h1 : x ≤ 255) : be 1 x = [x] := by
  show [x / 2 ^ (8 * 0) % 256] = [x]
  rw [show x / 2 ^ (8 * 0) % 256 = x by simp; omega]
/-- do the numbers fit, as the document asks? -/
def rnfB (ts : List Td) (k dn md : Int) : Bool := decide (k = 0) || nfB ts k dn md
/-- what the document's seq hands back -/
def RsRet (B n : Nat) (d : List Int) (k : Int) (br : ByteArray) (og cu : List Int) (ts : List Td) (dn md : Int) (st : Bool) (w : World) (e : Ending) (w' : World) : Prop :=
  Below B w w' ∧ KeptT w w' ∧ ((rnfB ts k dn md = true ∧ ∃ v', e = .returned (.tuple #[v', .bool true]) ∧ w'.ownsRow B 5 1 v' (n + (sqBs k br og cu ts dn md st).length) (bv (d ++ sqBs k br og cu ts dn md st))) ∨ (rnfB ts k dn md = false ∧ ∃ v', e = .returned (.tuple #[v', .bool false])))
set_option maxRecDepth 100000 in
set_option maxHeartbeats 8000000 in
theorem rseq_k (B : Nat) (v : Value) (d : List Int) (G : Nat) (k : Int) (br : ByteArray) (og cu : List Int) (A : Option Addr) (n C : Nat) (ts : List Td) (dn md : Int) (st : Bool) (w : World) (hB : B ≤ w.heap.size) (hGB : G ≤ B) (hown : w.ownsRow B 5 1 v d.length (bv d)) (hd : d.length ≤ 100000000000000)
    (ho : IdOk og) (hc : IdOk cu) (hT : RdT G w A n C ts) (hTi : ∀ t ∈ ts, IdOk t.id) (hn : n ≤ 1000000000) (hbr : k ≠ 0 → br.size ≤ 255) :
    Calls Try.prog 73 #[v, .agg (sqV k br og cu (.slice A n C) dn md st).toArray] w (RsRet B d.length d k br og cu ts dn md st w) := by
  have hql := sqV_len (k := k) (br := br) (td := Value.slice A n C) (dn := dn) (md := md) (st := st) ho.1 hc.1
  have hb1 := (Below.refl B w).alloc hB (.cells (sqV k br og cu (.slice A n C) dn md st).toArray 65)
  have HX := Lib.hid (row_newL w (sqV k br og cu (.slice A n C) dn md st) 65 70 hql)
  have HSa : Hid (∀ (W : World), W.rowIs w.heap.size 65 70 (fun i => (sqV k br og cu (.slice A n C) dn md st).getD i undef) → SqAt W w.heap.size 0 k br og cu (.slice A n C) dn md st) := Lib.hid (fun W h => sq_at ho.1 hc.1 (row_range h hql))
  have HT := Lib.hid hT
  have HB := Lib.hid hb1
  have HK := Lib.hid (KeptT.alloc w (.cells (sqV k br og cu (.slice A n C) dn md st).toArray 65))
  have HO := Lib.hid (own_keep hown ((Below.refl w.heap.size w).alloc (Nat.le_refl _) (.cells (sqV k br og cu (.slice A n C) dn md st).toArray 65)))
  have HTl : Hid (ts.length = n) := Lib.hid (by have := hT.rd.len; simpa using this)
  have HTi := Lib.hid hTi
  have hcap := hT.rd.cap
  have hmax := hT.rd.max
  have HIo := Lib.hid ho
  have HIc := Lib.hid hc
  have HIz : Hid ((Try.prog.info? 37).map (·.size) = some (bv og).length) := Lib.hid (by rw [bv_len, ho.1]; exact infoId)
  have HIy : Hid ((Try.prog.info? 37).map (·.size) = some (bv cu).length) := Lib.hid (by rw [bv_len, hc.1]; exact infoId)
  have hXB : B ≤ w.heap.size := hB
  have hXl := HX.out.lt
  obtain ⟨v0, C0, rfl⟩ := own_slice' hown
  have HYes : Hid (∀ (e : List Int) (A' : Option Addr) (m C' : Nat) (w' : World), rnfB ts k dn md = true → e = sqBs k br og cu ts dn md st → m = d.length + e.length → w'.ownsRow B 5 1 (.slice A' m C') m (bv (d ++ e)) → Below B w w' → KeptT w w' → RsRet B d.length d k br og cu ts dn md st w (Ending.returned (.tuple #[.slice A' m C', .bool true])) w') := Lib.hid (fun e A' m C' w' hf he hm h1 h2 h3 => by
    subst he hm
    exact ⟨h2, h3, .inl ⟨hf, _, rfl, h1⟩⟩)
  have HNo : Hid (∀ (v' : Value) (w' : World), rnfB ts k dn md = false → Below B w w' → KeptT w w' → RsRet B d.length d k br og cu ts dn md st w (Ending.returned (.tuple #[v', .bool false])) w') := Lib.hid (fun v' w' hf h2 h3 => ⟨h2, h3, .inr ⟨hf, _, rfl⟩⟩)
  generalize hPD : RsRet B d.length d k br og cu ts dn md st w = PO at *
  have HBr := Lib.hid hbr
  generalize sqV k br og cu (.slice A n C) dn md st = CM at *
  clear hPD hT hTi hb1 hown hql ho hc hbr
  go_enter Try.func73, Try.ntmps73
  go_upto_region 1 with (fail)
  generalize hwA : w.alloc (.cells CM.toArray 65) = wA at *
  clear hwA
  have HS0 : Hid (Bs w B w.heap.size 65 70 CM wA (.slice v0 d.length C0) d.length d) := Lib.hid ⟨HO.out, HX.out, HB.out, HK.out, hB⟩
  clear HO HX HB HK
  obtain ⟨X, hX⟩ : ∃ X, X = w.heap.size := ⟨_, rfl⟩
  rw [← hX] at HS0 HSa hXB hXl ⊢
  clear hX
  have hck : wA.cell? ⟨X, 0, none⟩ = some (.int .i64 k) := (HSa.out wA HS0.out.row).c0
  cases hfk : fitB k 255
  · have hkz : ¬ k = 0 := by rintro rfl; exact absurd hfk (by decide)
    have HE : Hid (rnfB ts k dn md = false) := Lib.hid (by unfold rnfB nfB; rw [hfk, decide_eq_false hkz]; simp)
    have HNn := Lib.hid (rnumber1_no (.slice v0 d.length C0) k wA hfk)
    clear hfk hkz
    go_wp2_with fail
    refine HNn.out.mono ?_
    rintro e w' ⟨rfl, rfl⟩
    go_wp2_with fail
    exact HNo.out _ _ HE.out HS0.out.bel HS0.out.kpt
  have hk2 : 0 ≤ k ∧ k ≤ 255 := by simpa [fitB] using hfk
  have hk0 := hk2.1
  have hk1 := hk2.2
  have HFk := Lib.hid hfk
  clear hfk hk2
  have HTx := Lib.hid (rnumber1_k B (.slice v0 d.length C0) d.length (bv d) k wA HS0.out.base HS0.out.own (by omega) HFk.out)
  go_wp2_with fail
  refine HTx.out.mono ?_
  intro e w1 hr
  obtain ⟨A1, C1, rfl, hs⟩ := HS0.out.pair (by decide) hr rfl
  obtain ⟨n1, hn1⟩ : ∃ n1, n1 = d.length + 1 := ⟨_, rfl⟩
  rw [← hn1] at hs ⊢
  have hl1 : n1 ≤ 100000000000001 := by omega
  obtain ⟨E1, hE1⟩ : ∃ E1, E1 = d ++ be 1 k := ⟨_, rfl⟩
  rw [← hE1] at hs
  have HE1 := Lib.hid hE1
  have HS1 := Lib.hid hs
  clear hn1 hs hr HTx HS0 hE1
  clear hck
  have hck : w1.cell? ⟨X, 0, none⟩ = some (.int .i64 k) := (HSa.out w1 HS1.out.row).c0
  have HE1' : Hid (E1 = d ++ [k]) := Lib.hid (by rw [HE1.out, be_one k hk0 hk1])
  clear HE1
  have HE1 := HE1'
  clear HE1'
  by_cases hkz : k = 0
  · have hd0 : (k == 0) = true := by simp [hkz]
    have HE : Hid ([k] = sqBs k br og cu ts dn md st) := Lib.hid (by unfold sqBs; rw [if_pos hkz])
    have HF : Hid (rnfB ts k dn md = true) := Lib.hid (by unfold rnfB; rw [decide_eq_true hkz]; rfl)
    clear hkz
    go_wp2_with fail
    exact HYes.out _ _ _ _ _ HF.out HE.out (by have := HS1.out.len; rw [HE1.out, List.length_append] at this; exact this) (by rw [← HE1.out]; exact HS1.out.own) HS1.out.bel HS1.out.kpt
  have hd0 : (k == 0) = false := by simp [hkz]
  have hbr := HBr.out hkz
  have HE : Hid (∀ l, l = k :: (sqH br og cu ts.length ++ tdBs ts ++ sqT dn md st) → l = sqBs k br og cu ts dn md st) := Lib.hid (fun l h => by rw [h]; unfold sqBs; rw [if_neg hkz])
  have HNf : Hid (rnfB ts k dn md = (tdB ts && (fitB dn 65535 && fitB md 65535))) := Lib.hid (by unfold rnfB nfB; rw [decide_eq_false hkz, HFk.out]; simp)
  clear hkz HBr
  have hcb : w1.cell? ⟨X, 1, none⟩ = some (.string br) := (HSa.out w1 HS1.out.row).c1
  have HTx := Lib.hid (rtext1_k B (.slice A1 n1 C1) n1 (bv E1) br w1 HS1.out.base HS1.out.own (by omega) hbr)
  go_wp2_with fail
  refine HTx.out.mono ?_
  intro e w2 hr
  obtain ⟨A2, C2, rfl, hs⟩ := HS1.out.pair (by decide) hr (txt_cells 1 br)
  obtain ⟨n2, hn2⟩ : ∃ n2, n2 = n1 + 1 + br.size := ⟨_, rfl⟩
  rw [← hn2] at hs ⊢
  have hl2 : n2 ≤ 100000000000264 := by omega
  obtain ⟨E2, hE2⟩ : ∃ E2, E2 = E1 ++ (be 1 br.size ++ sv br) := ⟨_, rfl⟩
  rw [← hE2] at hs
  have HE2 := Lib.hid hE2
  have HS2 := Lib.hid hs
  clear hn2 hs hr HTx HS1 hE2
  clear hcb hck
  go_wp2_with fail
  have dS := Lib.hid HS2.out.drew
  have HLo := Lib.hid HIo.out.1
  have HLc := Lib.hid HIc.out.1
  clear HS2
  have dC : Hid (w2.drew.rangeAt X 2 (bv og) ∧ w2.drew.rangeAt X 34 (bv cu)) := Lib.hid ⟨(HSa.out _ dS.out.row).og, (HSa.out _ dS.out.row).cu⟩
  refine wp_region_noPanic ?_
  refine wp_region_held_drew (S := (fun wS => wS.rangeAt X 2 (bv og) ∧ wS.rangeAt X 34 (bv cu))) (by kernel_rfl) ?_ (fun hHeld => ?_)
  · ((try dsimp only); exact dC.out)
  refine wpAnyH_take (i := 0) (oi := { dst := some 31, op := Op.move (Operand.tmp 0), type := 23, pos := "ref.go:358", after := #[], guard := none }) (v := ?_) rfl (by kernel_rfl) (by kernel_rfl) (by kernel_rfl) (fun _ _ _ h => h) (Or.inl ⟨by rfl, ?_⟩) (by assumption) ?_
  rotate_left 1
  · ((intro w hSw; (try dsimp only at hSw); go_simp) <;> with_reducible rfl)
  (try simp only [Act.put, List.setIfInBounds_toArray, List.set_cons_zero, List.set_cons_succ])
  refine wpAnyH_take (i := 1) (oi := { dst := some 32, op := Op.fieldAddr 65 (Operand.tmp 3) 2, type := 0, pos := "ref.go:358", after := #[], guard := none }) (v := ?_) rfl (by kernel_rfl) (by kernel_rfl) (by kernel_rfl) (fun _ _ _ h => h) (Or.inl ⟨by rfl, ?_⟩) (by assumption) ?_
  rotate_left 1
  · ((intro w hSw; (try dsimp only at hSw); go_simp) <;> with_reducible rfl)
  (try simp only [Act.put, List.setIfInBounds_toArray, List.set_cons_zero, List.set_cons_succ])
  refine' wpAnyH_take (i := 2) (oi := { dst := some 33, op := Op.load 37 (Operand.tmp 32), type := 37, pos := "ref.go:358", after := #[{ on := 1, ground := Ground.data }], guard := none }) (v := _) rfl (by kernel_rfl) (by kernel_rfl) (by kernel_rfl) (fun _ _ _ h => h) (yieldsIf_load_mid (by rfl) _ _ rfl _ _ rfl (bv og) _ (fun w hSw => hSw.1) Try.underlying37 rfl HIz.out) (by assumption) ?_
  (try simp only [Act.put, List.setIfInBounds_toArray, List.set_cons_zero, List.set_cons_succ])
  refine wpAnyH_take (i := 4) (oi := { dst := some 35, op := Op.fieldAddr 65 (Operand.tmp 3) 3, type := 0, pos := "ref.go:358", after := #[], guard := none }) (v := ?_) rfl (by kernel_rfl) (by kernel_rfl) (by kernel_rfl) (fun _ _ _ h => h) (Or.inl ⟨by rfl, ?_⟩) (by assumption) ?_
  rotate_left 1
  · ((intro w hSw; (try dsimp only at hSw); go_simp) <;> with_reducible rfl)
  (try simp only [Act.put, List.setIfInBounds_toArray, List.set_cons_zero, List.set_cons_succ])
  refine' wpAnyH_take (i := 5) (oi := { dst := some 36, op := Op.load 37 (Operand.tmp 35), type := 37, pos := "ref.go:358", after := #[{ on := 4, ground := Ground.data }], guard := none }) (v := _) rfl (by kernel_rfl) (by kernel_rfl) (by kernel_rfl) (fun _ _ _ h => h) (yieldsIf_load_mid (by rfl) _ _ rfl _ _ rfl (bv cu) _ (fun w hSw => hSw.2) Try.underlying37 rfl HIy.out) (by assumption) ?_
  (try simp only [Act.put, List.setIfInBounds_toArray, List.set_cons_zero, List.set_cons_succ])
  refine wpAnyH_ready (rs := [3]) (by kernel_rfl) (by simp) ?_
  refine AllReadyH.cons (o := { dst := some 34, op := Op.call { callee := Callee.value (Operand.func 43), args := #[Operand.tmp 31, Operand.tmp 33], argTypes := #[23, 37] }, type := 23, pos := "ref.go:358", after := #[{ on := 0, ground := Ground.data }, { on := 2, ground := Ground.data }], guard := none }) rfl (fun K hK => ?_) ?_
  · go_simp
    have HNr := Lib.hid (put_k B (.slice A2 n2 C2) n2 (bv E2) og HLo.out w2.drew dS.out.base dS.out.own (by omega))
    refine HNr.out.mono ?_
    clear HNr
    intro e w3 hr
    obtain ⟨A3, C3, rfl, hs⟩ := dS.out.ret (by decide) hr rfl
    have eS := Lib.hid hs
    have eC : Hid (w3.rangeAt X 2 (bv og) ∧ w3.rangeAt X 34 (bv cu)) := Lib.hid ⟨(HSa.out _ eS.out.row).og, (HSa.out _ eS.out.row).cu⟩
    clear dS dC hr hs
    have dS := eS
    have dC := eC
    clear eS eC
    (try go_wp2_with fail)
    refine hK.out _ _ ?_ (fun hNew => ?_)
    · ((try dsimp only); exact dC.out)
    clear hK K hHeld
    have hHeld := hNew
    clear hNew
    (try simp only [Act.put, List.setIfInBounds_toArray, List.set_cons_zero, List.set_cons_succ])
    refine wpAnyH_ready (rs := [6]) (by kernel_rfl) (by simp) ?_
    refine AllReadyH.cons (o := { dst := some 37, op := Op.call { callee := Callee.value (Operand.func 43), args := #[Operand.tmp 34, Operand.tmp 36], argTypes := #[23, 37] }, type := 23, pos := "ref.go:358", after := #[{ on := 3, ground := Ground.data }, { on := 5, ground := Ground.data }, { on := 3, ground := Ground.chain }], guard := none }) rfl (fun K hK => ?_) ?_
    · go_simp
      have HNr := Lib.hid (put_k B (.slice A3 (n2 + 32) C3) (n2 + 32) (bv (E2 ++ og)) cu HLc.out w3 dS.out.base dS.out.own (by omega))
      refine HNr.out.mono ?_
      clear HNr
      intro e w4 hr
      obtain ⟨A4, C4, rfl, hs⟩ := dS.out.ret (by decide) hr rfl
      have eS := Lib.hid hs
      have eC : Hid (w4.rangeAt X 2 (bv og) ∧ w4.rangeAt X 34 (bv cu)) := Lib.hid ⟨(HSa.out _ eS.out.row).og, (HSa.out _ eS.out.row).cu⟩
      clear dS dC hr hs
      have dS := eS
      have dC := eC
      clear eS eC
      (try go_wp2_with fail)
      refine hK.out _ _ ?_ (fun hNew => ?_)
      · ((try dsimp only); exact dC.out)
      clear hK K hHeld
      have hHeld := hNew
      clear hNew
      (try simp only [Act.put, List.setIfInBounds_toArray, List.set_cons_zero, List.set_cons_succ])
      refine wpAnyH_take (i := 7) (oi := { dst := some 0, op := Op.assign (Operand.tmp 37), type := 23, pos := "ref.go:358", after := #[{ on := 6, ground := Ground.data }, { on := 6, ground := Ground.chain }, { on := 0, ground := Ground.phase }, { on := 1, ground := Ground.phase }, { on := 2, ground := Ground.phase }, { on := 3, ground := Ground.phase }, { on := 4, ground := Ground.phase }, { on := 5, ground := Ground.phase }, { on := 6, ground := Ground.phase }], guard := none }) (v := ?_) rfl (by kernel_rfl) (by kernel_rfl) (by kernel_rfl) (fun _ _ _ h => h) (Or.inl ⟨by rfl, ?_⟩) (by assumption) ?_
      rotate_left 1
      · ((intro w hSw; (try dsimp only at hSw); go_simp) <;> with_reducible rfl)
      (try simp only [Act.put, List.setIfInBounds_toArray, List.set_cons_zero])
      refine wpAnyH_done (by kernel_rfl) ?_ _
      refine NoPanic.normal ?_
      clear hHeld dC
      obtain ⟨n4, hn4⟩ : ∃ n4, n4 = n2 + 32 + 32 := ⟨_, rfl⟩
      have hs4 := dS.out
      rw [← hn4] at hs4 ⊢
      have hl4 : n4 ≤ 100000000000328 := by omega
      obtain ⟨E4, hE4⟩ : ∃ E4, E4 = E2 ++ og ++ cu := ⟨_, rfl⟩
      rw [← hE4] at hs4
      have HE4 := Lib.hid hE4
      have HS4 := Lib.hid hs4
      clear hn4 hs4 hE4 dS
      have hct : w4.cell? ⟨X, 66, none⟩ = some (.slice A n C) := by have := (HSa.out w4 HS4.out.row).td; simpa using this
      have HTx := Lib.hid (rnum_k B (.slice A4 n4 C4) n4 (bv E4) (n : Int) 2 w4 HS4.out.base HS4.out.own (by omega) (by omega) (by omega) (by omega))
      go_wp2_with fail
      refine HTx.out.mono ?_
      intro e w5 hr
      obtain ⟨A5, C5, rfl, hs⟩ := HS4.out.ret (by decide) hr rfl
      obtain ⟨n5, hn5⟩ : ∃ n5, n5 = n4 + 2 := ⟨_, rfl⟩
      rw [← hn5] at hs ⊢
      have hl5 : n5 ≤ 100000000000330 := by omega
      obtain ⟨E5, hE5⟩ : ∃ E5, E5 = E4 ++ be 2 (n : Int) := ⟨_, rfl⟩
      rw [← hE5] at hs
      have HE5 := Lib.hid hE5
      have HS5 := Lib.hid hs
      clear hn5 hs hr HTx HS4 hE5
      clear hct
      go_wp2_with fail
      go_loopw [0, 7] (fun b i wr => ∃ (j m : Nat) (Ar : Option Addr) (Cr : Nat), b = .slice Ar m Cr ∧ i = .int .i64 j ∧ j ≤ n ∧ m ≤ 100000000000330 + 33 * j ∧ Hid (tdB (ts.take j) = true) ∧ Hid (Bs w B X 65 70 CM wr (.slice Ar m Cr) m (E5 ++ tdBs (ts.take j)))) (fun _ i _ => n - (intOf i).toNat)
      case atStart => exact ⟨0, n5, A5, C5, rfl, rfl, Nat.zero_le _, by omega, Lib.hid rfl, Lib.hid (by rw [List.take_zero, show tdBs [] = [] from rfl, List.append_nil]; exact HS5.out)⟩
      case round =>
        clear HS5
        obtain ⟨j, n6, A6, C6, rfl, rfl, hj, hm, HFt, HS6⟩ := hrel
        have hct : wr.cell? ⟨X, 66, none⟩ = some (.slice A n C) := by have := (HSa.out wr HS6.out.row).td; simpa using this
        by_cases hlt : j < n
        · have hTr := HT.out.below HS6.out.bel hGB
          obtain ⟨g, o, rfl, hgl, hcc⟩ := hTr.rd.cell (by omega)
          obtain ⟨t, ht⟩ : ∃ t, t = ts.getD j default := ⟨_, rfl⟩
          have hrg := hcc j hlt
          rw [map_getD _ (by rw [HTl.out]; exact hlt), ← ht] at hrg
          have htm : t ∈ ts := by rw [ht]; exact getD_memI (by rw [HTl.out]; exact hlt)
          have HIi := Lib.hid (HTi.out t htm)
          have hc0 := (rg_cons hrg).1
          obtain ⟨Ej, hEj⟩ : ∃ Ej, Ej = E5 ++ tdBs (ts.take j) := ⟨_, rfl⟩
          have hs7 := HS6.out
          rw [← hEj] at hs7
          have HS7 := Lib.hid hs7
          have HEj := Lib.hid hEj
          have hst := tdBs_take ts j (by rw [HTl.out]; exact hlt)
          rw [← ht] at hst
          have HSt := Lib.hid hst
          have hft := tdB_take ts j (by rw [HTl.out]; exact hlt)
          rw [HFt.out, ← ht, Bool.true_and] at hft
          have HFt1 := Lib.hid hft
          have hno := tdB_no ts j (by rw [HTl.out]; exact hlt)
          rw [← ht] at hno
          have HTn := Lib.hid hno
          have HRd : Hid (∀ W : World, Below B w W → W.rangeAt g (o + j * 33 + 1) (bv t.id)) := Lib.hid (fun W hb => by
            obtain ⟨g', o', h1, -, h3⟩ := (HT.out.below hb hGB).rd.cell (by omega)
            simp only [Option.some.injEq, Addr.mk.injEq, and_true] at h1
            obtain ⟨rfl, rfl⟩ := h1
            have h := h3 j hlt
            rw [map_getD _ (by rw [HTl.out]; exact hlt), ← ht] at h
            exact (rg_cons h).2)
          have hj0 : (0 : Int) ≤ (j : Int) := by omega
          have hj1 : (j : Int) < (n : Int) := by omega
          clear hTr hcc hrg hst hft hno ht htm HS6 hs7 hEj HFt
          obtain ⟨dd, hdd⟩ : ∃ dd, dd = t.dd := ⟨_, rfl⟩
          obtain ⟨ti, hti⟩ : ∃ ti, ti = t.id := ⟨_, rfl⟩
          rw [← hdd] at hc0 HSt HFt1 HTn
          rw [← hti] at HRd HIi HSt
          clear hdd hti
          have HTs : Hid ((Try.prog.info? 37).map (·.size) = some (bv ti).length) := Lib.hid (by rw [bv_len, HIi.out.1]; exact infoId)
          cases hfb : fitB dd 255
          · have HTf := Lib.hid (HTn.out hfb)
            have HNn := Lib.hid (rnumber1_no (.slice A6 n6 C6) dd wr hfb)
            clear hfb
            go_wp2_with fail
            refine HNn.out.mono ?_
            rintro e w' ⟨rfl, rfl⟩
            go_wp2_with fail
            exact HNo.out _ _ (by rw [HNf.out, HTf.out]; rfl) HS7.out.bel HS7.out.kpt
          rw [hfb] at HFt1
          have HFb := Lib.hid hfb
          have hb2 : 0 ≤ dd ∧ dd ≤ 255 := by simpa [fitB] using hfb
          have hb0 := hb2.1
          have hb1 := hb2.2
          clear hfb hb2 HTn
          have HTx := Lib.hid (rnumber1_k B (.slice A6 n6 C6) n6 (bv Ej) dd wr HS7.out.base HS7.out.own (by omega) HFb.out)
          go_wp2_with fail
          refine HTx.out.mono ?_
          intro e w8 hr
          obtain ⟨A8, C8, rfl, hs⟩ := HS7.out.pair (by decide) hr rfl
          obtain ⟨n8, hn8⟩ : ∃ n8, n8 = n6 + 1 := ⟨_, rfl⟩
          rw [← hn8] at hs ⊢
          have hl8 : n8 ≤ 100000000000331 + 33 * j := by omega
          obtain ⟨E8, hE8⟩ : ∃ E8, E8 = Ej ++ be 1 dd := ⟨_, rfl⟩
          rw [← hE8] at hs
          have HE8 := Lib.hid hE8
          have HS8 := Lib.hid hs
          clear hn8 hs hr HTx HS7 hE8
          clear hc0 hct
          have hct : w8.cell? ⟨X, 66, none⟩ = some (.slice (some ⟨g, o, none⟩) n C) := by have := (HSa.out w8 HS8.out.row).td; simpa using this
          have HR8 := Lib.hid (HRd.out w8 HS8.out.bel)
          have HTx := Lib.hid (put_k B (.slice A8 n8 C8) n8 (bv E8) ti HIi.out.1 w8 HS8.out.base HS8.out.own (by omega))
          go_wp2_with (refine wpList_load_mid rfl _ _ rfl g (o + j * 33 + 1) rfl (bv ti) _ HR8.out Try.underlying37 rfl HTs.out ?_)
          refine HTx.out.mono ?_
          intro e w9 hr
          obtain ⟨A9, C9, rfl, hs⟩ := HS8.out.ret (by decide) hr rfl
          obtain ⟨n9, hn9⟩ : ∃ n9, n9 = n8 + 32 := ⟨_, rfl⟩
          rw [← hn9] at hs ⊢
          have hl9 : n9 ≤ 100000000000363 + 33 * j := by omega
          obtain ⟨E9, hE9⟩ : ∃ E9, E9 = E8 ++ ti := ⟨_, rfl⟩
          rw [← hE9] at hs
          have HE9 := Lib.hid hE9
          have HS9 := Lib.hid hs
          clear hn9 hs hr HTx HS8 hE9
          clear hct HR8
          have HS10 : Hid (Bs w B X 65 70 CM w9 (.slice A9 n9 C9) n9 (E5 ++ tdBs (ts.take (j + 1)))) := Lib.hid (by
            have h := HS9.out
            rw [HE9.out, HE8.out, HEj.out, be_one dd hb0 hb1] at h
            rw [HSt.out]
            simpa [List.append_assoc] using h)
          clear HE8 HE9 HS9 HEj
          go_wp2_with fail
          go_roundw
          case rel => exact ⟨j + 1, n9, A9, C9, rfl, by go_num, by omega, by omega, HFt1, HS10⟩
          case measure => simp [intOf]; omega
        · have ej : j = n := by omega
          have hd2 : decide ((j : Int) < (n : Int)) = false := by simp; omega
          have hS : Bs w B X 65 70 CM wr (.slice A6 n6 C6) n6 (E5 ++ tdBs ts) := by
            have h := HS6.out
            rw [ej, List.take_of_length_le (by rw [HTl.out]; exact Nat.le_refl _)] at h
            exact h
          have HTd : Hid (tdB ts = true) := Lib.hid (by
            have h := HFt.out
            rw [ej, List.take_of_length_le (by rw [HTl.out]; exact Nat.le_refl _)] at h
            exact h)
          obtain ⟨E6, hE6⟩ : ∃ E6, E6 = E5 ++ tdBs ts := ⟨_, rfl⟩
          rw [← hE6] at hS
          have HE6 := Lib.hid hE6
          have HS6b := Lib.hid hS
          have hl6 : n6 ≤ 100000000000330 + 33 * n := by omega
          clear HS6 hS hE6 ej hm HFt
          have HS6 := HS6b
          clear HS6b
          have hcd : wr.cell? ⟨X, 67, none⟩ = some (.int .i64 dn) := by have := (HSa.out wr HS6.out.row).dn; simpa using this
          cases hfd : fitB dn 65535
          · have HNn := Lib.hid (rnumber2_no (.slice A6 n6 C6) dn wr hfd)
            have HEf : Hid (rnfB ts k dn md = false) := Lib.hid (by rw [HNf.out, hfd]; simp)
            clear hfd
            go_wp2_with fail
            refine HNn.out.mono ?_
            rintro e w' ⟨rfl, rfl⟩
            go_wp2_with fail
            exact HNo.out _ _ HEf.out HS6.out.bel HS6.out.kpt
          have HFd := Lib.hid hfd
          have hd3 : 0 ≤ dn ∧ dn ≤ 65535 := by simpa [fitB] using hfd
          have hd30 := hd3.1
          have hd31 := hd3.2
          clear hfd hd3
          have HTx := Lib.hid (rnumber2_k B (.slice A6 n6 C6) n6 (bv E6) dn wr HS6.out.base HS6.out.own (by omega) HFd.out)
          go_wp2_with fail
          refine HTx.out.mono ?_
          intro e w7 hr
          obtain ⟨A7, C7, rfl, hs⟩ := HS6.out.pair (by decide) hr rfl
          obtain ⟨n7, hn7⟩ : ∃ n7, n7 = n6 + 2 := ⟨_, rfl⟩
          rw [← hn7] at hs ⊢
          have hl7 : n7 ≤ 100000000000332 + 33 * n := by omega
          obtain ⟨E7, hE7⟩ : ∃ E7, E7 = E6 ++ be 2 dn := ⟨_, rfl⟩
          rw [← hE7] at hs
          have HE7 := Lib.hid hE7
          have HS7 := Lib.hid hs
          clear hn7 hs hr HTx HS6 hE7
          clear hcd hct
          have hcm : w7.cell? ⟨X, 68, none⟩ = some (.int .i64 md) := by have := (HSa.out w7 HS7.out.row).md; simpa using this
          cases hfm : fitB md 65535
          · have HNn := Lib.hid (rnumber2_no (.slice A7 n7 C7) md w7 hfm)
            have HEf : Hid (rnfB ts k dn md = false) := Lib.hid (by rw [HNf.out, hfm]; simp)
            clear hfm
            have hcs : w7.cell? ⟨X, 69, none⟩ = some (.bool st) := by have := (HSa.out w7 HS7.out.row).st; simpa using this
            go_wp2_with fail
            refine HNn.out.mono ?_
            rintro e w' ⟨rfl, hwq⟩
            rw [← hwq]
            clear hwq
            cases st
            · skip
              have HSl := Lib.hid (HS7.out.alloc (.cells #[.int .u8 0] 5))
              have HRl := Lib.hid (RdB.lit w7 0 (by decide) (by decide))
              go_wp2_with (refine wpList_append_k _ rfl _ _ rfl B (.slice A7 n7 C7) n7 _ rfl HSl.out.own (some ⟨w7.heap.size, 0, none⟩) 1 1 [0] rfl HRl.out (by omega) HSl.out.base ?_)
              intro A8 C8 w8 ho hb hk
              obtain ⟨n8, hn8⟩ : ∃ n8, n8 = n7 + 1 := ⟨_, rfl⟩
              rw [← hn8] at ho ⊢
              have hl8 : n8 ≤ 100000000000333 + 33 * n := by omega
              obtain ⟨E8, hE8⟩ : ∃ E8, E8 = E7 ++ [0] := ⟨_, rfl⟩
              rw [← hE8] at ho
              have HE8 := Lib.hid hE8
              have HS8 := Lib.hid (HSl.out.next (by decide) ho hb hk)
              clear hn8 ho hb hk HSl HRl HS7 hE8
              clear hcs
              go_wp2_with fail
              exact HNo.out _ _ HEf.out HS8.out.bel HS8.out.kpt
            · skip
              have HSl := Lib.hid (HS7.out.alloc (.cells #[.int .u8 1] 5))
              have HRl := Lib.hid (RdB.lit w7 1 (by decide) (by decide))
              go_wp2_with (refine wpList_append_k _ rfl _ _ rfl B (.slice A7 n7 C7) n7 _ rfl HSl.out.own (some ⟨w7.heap.size, 0, none⟩) 1 1 [1] rfl HRl.out (by omega) HSl.out.base ?_)
              intro A8 C8 w8 ho hb hk
              obtain ⟨n8, hn8⟩ : ∃ n8, n8 = n7 + 1 := ⟨_, rfl⟩
              rw [← hn8] at ho ⊢
              have hl8 : n8 ≤ 100000000000333 + 33 * n := by omega
              obtain ⟨E8, hE8⟩ : ∃ E8, E8 = E7 ++ [1] := ⟨_, rfl⟩
              rw [← hE8] at ho
              have HE8 := Lib.hid hE8
              have HS8 := Lib.hid (HSl.out.next (by decide) ho hb hk)
              clear hn8 ho hb hk HSl HRl HS7 hE8
              clear hcs
              go_wp2_with fail
              exact HNo.out _ _ HEf.out HS8.out.bel HS8.out.kpt
          have HFm := Lib.hid hfm
          have hd4 : 0 ≤ md ∧ md ≤ 65535 := by simpa [fitB] using hfm
          have hd40 := hd4.1
          have hd41 := hd4.2
          clear hfm hd4
          have HTx := Lib.hid (rnumber2_k B (.slice A7 n7 C7) n7 (bv E7) md w7 HS7.out.base HS7.out.own (by omega) HFm.out)
          go_wp2_with fail
          refine HTx.out.mono ?_
          intro e w8 hr
          obtain ⟨A8, C8, rfl, hs⟩ := HS7.out.pair (by decide) hr rfl
          obtain ⟨n8, hn8⟩ : ∃ n8, n8 = n7 + 2 := ⟨_, rfl⟩
          rw [← hn8] at hs ⊢
          have hl8 : n8 ≤ 100000000000334 + 33 * n := by omega
          obtain ⟨E8, hE8⟩ : ∃ E8, E8 = E7 ++ be 2 md := ⟨_, rfl⟩
          rw [← hE8] at hs
          have HE8 := Lib.hid hE8
          have HS8 := Lib.hid hs
          clear hn8 hs hr HTx HS7 hE8
          clear hcm
          have HF : Hid (rnfB ts k dn md = true) := Lib.hid (by rw [HNf.out, HTd.out, HFd.out, HFm.out]; rfl)
          have hcs : w8.cell? ⟨X, 69, none⟩ = some (.bool st) := by have := (HSa.out w8 HS8.out.row).st; simpa using this
          cases st
          · skip
            have HSl := Lib.hid (HS8.out.alloc (.cells #[.int .u8 0] 5))
            have HRl := Lib.hid (RdB.lit w8 0 (by decide) (by decide))
            go_wp2_with (refine wpList_append_k _ rfl _ _ rfl B (.slice A8 n8 C8) n8 _ rfl HSl.out.own (some ⟨w8.heap.size, 0, none⟩) 1 1 [0] rfl HRl.out (by omega) HSl.out.base ?_)
            intro A9 C9 w9 ho hb hk
            obtain ⟨n9, hn9⟩ : ∃ n9, n9 = n8 + 1 := ⟨_, rfl⟩
            rw [← hn9] at ho ⊢
            have hl9 : n9 ≤ 100000000000335 + 33 * n := by omega
            obtain ⟨E9, hE9⟩ : ∃ E9, E9 = E8 ++ [0] := ⟨_, rfl⟩
            rw [← hE9] at ho
            have HE9 := Lib.hid hE9
            have HS9 := Lib.hid (HSl.out.next (by decide) ho hb hk)
            clear hn9 ho hb hk HSl HRl HS8 hE9
            clear hcs
            go_wp2_with fail
            exact HYes.out _ A9 n9 C9 w9 HF.out (HE.out _ rfl) (by
              have := HS9.out.len
              rw [HE9.out, HE8.out, HE7.out, HE6.out, HE5.out, HE4.out, HE2.out, HE1.out] at this
              rw [this, HTl.out]
              simp [sqH, sqT, List.append_assoc]) (by
              have h := HS9.out.own
              rw [HE9.out, HE8.out, HE7.out, HE6.out, HE5.out, HE4.out, HE2.out, HE1.out] at h
              rw [HTl.out]
              simpa [sqH, sqT, List.append_assoc] using h) HS9.out.bel HS9.out.kpt
          · skip
            have HSl := Lib.hid (HS8.out.alloc (.cells #[.int .u8 1] 5))
            have HRl := Lib.hid (RdB.lit w8 1 (by decide) (by decide))
            go_wp2_with (refine wpList_append_k _ rfl _ _ rfl B (.slice A8 n8 C8) n8 _ rfl HSl.out.own (some ⟨w8.heap.size, 0, none⟩) 1 1 [1] rfl HRl.out (by omega) HSl.out.base ?_)
            intro A9 C9 w9 ho hb hk
            obtain ⟨n9, hn9⟩ : ∃ n9, n9 = n8 + 1 := ⟨_, rfl⟩
            rw [← hn9] at ho ⊢
            have hl9 : n9 ≤ 100000000000335 + 33 * n := by omega
            obtain ⟨E9, hE9⟩ : ∃ E9, E9 = E8 ++ [1] := ⟨_, rfl⟩
            rw [← hE9] at ho
            have HE9 := Lib.hid hE9
            have HS9 := Lib.hid (HSl.out.next (by decide) ho hb hk)
            clear hn9 ho hb hk HSl HRl HS8 hE9
            clear hcs
            go_wp2_with fail
            exact HYes.out _ A9 n9 C9 w9 HF.out (HE.out _ rfl) (by
              have := HS9.out.len
              rw [HE9.out, HE8.out, HE7.out, HE6.out, HE5.out, HE4.out, HE2.out, HE1.out] at this
              rw [this, HTl.out]
              simp [sqH, sqT, List.append_assoc]) (by
              have h := HS9.out.own
              rw [HE9.out, HE8.out, HE7.out, HE6.out, HE5.out, HE4.out, HE2.out, HE1.out] at h
              rw [HTl.out]
              simpa [sqH, sqT, List.append_assoc] using h) HS9.out.bel HS9.out.kpt
    exact AllReadyH.nil
  exact AllReadyH.nil
end Go.Proofs.Ytmcmapgllaopmaa.Cd
end

section
namespace Go.Proofs.Ytmcmapgllaopmaa.Cd
open Go.RowKit
set_option linter.unusedVariables false
theorem ask_br (s : SqD) (hs : Bool) : (s.ask hs).br = if hs = true ∧ s.k ≠ 0 then s.br else ByteArray.empty := by
  unfold SqD.ask
  split <;> rfl
theorem ask_ts (s : SqD) (hs : Bool) : (65535 < (s.ask hs).ts.length) ↔ (hs = true ∧ s.k ≠ 0 ∧ 65535 < s.ts.length) := by
  unfold SqD.ask
  split
  · rename_i h; exact ⟨fun x => ⟨h.1, h.2, x⟩, fun x => x.2.2⟩
  · rename_i h; exact ⟨fun x => absurd x (by decide), fun x => absurd ⟨x.1, x.2.1⟩ h⟩
theorem ask_nf (s : SqD) (hs : Bool) : (nfB (s.ask hs).ts (s.ask hs).k (s.ask hs).dn (s.ask hs).md = false) ↔ (hs = true ∧ rnfB s.ts s.k s.dn s.md = false) := by
  unfold SqD.ask rnfB
  split
  · rename_i h; simp [h.1, h.2]
  · rename_i h
    constructor
    · intro x; exact absurd x (by decide)
    · rintro ⟨h1, h2⟩
      simp only [Bool.or_eq_false_iff, decide_eq_false_iff_not] at h2
      exact absurd ⟨h1, h2.1⟩ h
theorem ask_bytes (s : SqD) (hs : Bool) (h : hs = true) : (s.ask hs).bytes = sqBs s.k s.br s.og s.cu s.ts s.dn s.md s.st := by
  unfold SqD.ask
  split
  · rfl
  · rename_i h2
    have hk : s.k = 0 := by
      by_cases hk : s.k = 0
      · exact hk
      · exact absurd ⟨h, hk⟩ h2
    unfold SqD.bytes sqBs
    rw [if_pos hk, hk]
    rfl
theorem txE_doc (t : TxD) : txE t = if 65535 < t.ms.length ∨ 65535 < t.ys.length ∨ (t.hs = true ∧ t.sq.k ≠ 0 ∧ 65535 < t.sq.ts.length) then 4 else if rlgB t.hh t.hd t.ms t.hs t.sq.k t.sq.br = true then 5 else if t.hs = true ∧ rnfB t.sq.ts t.sq.k t.sq.dn t.sq.md = false then 1 else 0 := by
  unfold txE
  rw [rlgB_eq t.hh t.hd t.ms t.hs t.sq.k t.sq.br _ (ask_br t.sq t.hs)]
  simp only [ask_ts, ask_nf]
theorem sv_sb (l : List Int) (h : ∀ i, i < l.length → 0 ≤ l.getD i 0 ∧ l.getD i 0 ≤ 255) : sv (sb l) = l := by
  unfold sv
  rw [sb_data, List.map_map]
  refine (List.map_congr_left fun x hx => ?_).trans (List.map_id l)
  obtain ⟨i, hi, rfl⟩ := List.getElem_of_mem hx
  have := h i hi
  simp only [List.getD_eq_getElem?_getD, List.getElem?_eq_getElem hi, Option.getD_some] at this
  simp only [Function.comp_apply, id_eq, UInt8.toNat_ofNat']
  omega
theorem bv_inj {a b : List Int} (h : bv a = bv b) : a = b := by
  unfold bv at h
  exact (List.map_inj_right (fun x y e => by injection e)).1 h
theorem sqBs_len' {k : Int} {br : ByteArray} {og cu : List Int} {ts : List Td} {dn md : Int} {st : Bool} (ho : og.length = 32) (hc : cu.length = 32) (ht : ∀ t ∈ ts, t.id.length = 32) (hb : br.size ≤ 1000000000) (hn : ts.length ≤ 1000000000) : (sqBs k br og cu ts dn md st).length ≤ 50000000000 := by
  unfold sqBs
  split
  · simp
  · simp [sqH, sqT, be_length, sv_len, ho, hc, tdBs_len ts ht]
    omega
set_option maxRecDepth 100000 in
set_option maxHeartbeats 8000000 in
theorem rencodeTx_any (G : Nat) (hh : Bool) (hd : ByteArray) (A : Option Addr) (n C : Nat) (ms : List Mv) (hs : Bool) (k : Int) (br : ByteArray) (og cu : List Int) (At : Option Addr) (nt Ct : Nat) (ts : List Td) (dn md : Int) (st : Bool) (Am : Option Addr) (m Cm : Nat) (ys : List My) (w : World)
    (ho : IdOk og) (hc : IdOk cu) (hM : RdM G w A n C ms) (hMi : ∀ x ∈ ms, IdOk x.od ∧ IdOk x.nw) (hT : RdT G w At nt Ct ts) (hTi : ∀ t ∈ ts, IdOk t.id) (hY : RdY G w Am m Cm ys) (hYi : ∀ y ∈ ys, IdOk y.key) (hG : G ≤ w.heap.size) (hn : n ≤ 1000000000) (hm : m ≤ 1000000000) (hnt : nt ≤ 1000000000) (hhd : hd.size ≤ 1000000000) (hbr : br.size ≤ 1000000000) :
    Calls Try.prog 30 #[.agg (txV hh hd (.slice A n C) hs (sqV k br og cu (.slice At nt Ct) dn md st) (.slice Am m Cm)).toArray] w (TxRet ⟨hh, hd, ms, hs, ⟨k, br, og, cu, ts, dn, md, st⟩, ys⟩ w) := by
  have hql := sqV_len (k := k) (br := br) (td := Value.slice At nt Ct) (dn := dn) (md := md) (st := st) ho.1 hc.1
  have hxl := txV_len (hh := hh) (hd := hd) (mv := .slice A n C) (hs := hs) (mm := .slice Am m Cm) hql
  have hb1 := (Below.refl w.heap.size w).alloc (Nat.le_refl _) (.cells (txV hh hd (.slice A n C) hs (sqV k br og cu (.slice At nt Ct) dn md st) (.slice Am m Cm)).toArray 68)
  have hr1 := row_newL w (txV hh hd (.slice A n C) hs (sqV k br og cu (.slice At nt Ct) dn md st) (.slice Am m Cm)) 68 75 hxl
  have HX1 := Lib.hid hr1
  have HB1 := Lib.hid hb1
  have hXl := hr1.lt
  have HTE : Hid (txE ⟨hh, hd, ms, hs, ⟨k, br, og, cu, ts, dn, md, st⟩, ys⟩ = if 65535 < ms.length ∨ 65535 < ys.length ∨ (hs = true ∧ k ≠ 0 ∧ 65535 < ts.length) then 4 else if rlgB hh hd ms hs k br = true then 5 else if hs = true ∧ rnfB ts k dn md = false then 1 else 0) := Lib.hid (txE_doc _)
  have HTB : Hid (txB ⟨hh, hd, ms, hs, ⟨k, br, og, cu, ts, dn, md, st⟩, ys⟩ = fgB hh hs :: ((if hh = true then be 1 hd.size ++ sv hd else []) ++ be 2 ms.length ++ mvBs ms ++ (if hs = true then sqBs k br og cu ts dn md st else []) ++ be 2 ys.length ++ myBs ys)) := Lib.hid (by
    unfold txB
    cases hs
    · rfl
    · rw [ask_bytes _ true rfl])
  have HTa : Hid (∀ W : World, W.rowIs w.heap.size 68 75 (fun i => (txV hh hd (.slice A n C) hs (sqV k br og cu (.slice At nt Ct) dn md st) (.slice Am m Cm)).getD i undef) → TxAt W w.heap.size hh hd (.slice A n C) hs (sqV k br og cu (.slice At nt Ct) dn md st) (.slice Am m Cm)) := Lib.hid (fun W h => tx_at hql (row_range h hxl))
  have HSa : Hid (∀ W : World, W.rangeAt w.heap.size 4 (sqV k br og cu (.slice At nt Ct) dn md st) → SqAt W w.heap.size 4 k br og cu (.slice At nt Ct) dn md st) := Lib.hid (fun W h => sq_at ho.1 hc.1 h)
  have HLg : Hid (∀ W : World, RdM G W A n C ms → G ≤ W.heap.size → Calls Try.prog 71 #[.agg (txV hh hd (.slice A n C) hs (sqV k br og cu (.slice At nt Ct) dn md st) (.slice Am m Cm)).toArray] W fun e w' => e = .returned (.bool (rlgB hh hd ms hs k br)) ∧ Below W.heap.size W w') := Lib.hid (fun W a c => rlong_any G hh hd A n C ms hs k br og cu (.slice At nt Ct) dn md st (.slice Am m Cm) W ho.1 hc.1 a c hn (by omega) (by omega))
  have HPs : Hid (∀ (B : Nat) (v : Value) (d : List Int) (W : World), B ≤ W.heap.size → G ≤ B → W.ownsRow B 5 1 v d.length (bv d) → d.length ≤ 100000000000000 → RdT G W At nt Ct ts → (k ≠ 0 → br.size ≤ 255) → Calls Try.prog 73 #[v, .agg (sqV k br og cu (.slice At nt Ct) dn md st).toArray] W (RsRet B d.length d k br og cu ts dn md st W)) := Lib.hid (fun B v d W h1 h2 h3 h4 h5 h6 => rseq_k B v d G k br og cu At nt Ct ts dn md st W h1 h2 h3 h4 ho hc h5 hTi hnt h6)
  have HSQl : Hid ((sqBs k br og cu ts dn md st).length ≤ 50000000000) := Lib.hid (sqBs_len' ho.1 hc.1 (fun t ht => (hTi t ht).1) hbr (by have := hT.rd.len; simp at this; omega))
  obtain ⟨SQ, hSQ⟩ : ∃ SQ, SQ = sqV k br og cu (.slice At nt Ct) dn md st := ⟨_, rfl⟩
  rw [← hSQ] at hql hxl HTa HSa HLg HPs HX1 HB1 hXl ⊢
  clear hSQ ho hc hTi hb1 hr1
  have HQl := Lib.hid hql
  have HXl := Lib.hid hxl
  have HM := Lib.hid hM
  have HMi := Lib.hid hMi
  have HT := Lib.hid hT
  have HY := Lib.hid hY
  have HYi := Lib.hid hYi
  have HMl : Hid (ms.length = n) := Lib.hid (by have := hM.rd.len; simpa using this)
  have HYl : Hid (ys.length = m) := Lib.hid (by have := hY.rd.len; simpa using this)
  have HTl : Hid (ts.length = nt) := Lib.hid (by have := hT.rd.len; simpa using this)
  have hcap := hM.rd.cap
  have hmax := hM.rd.max
  have hcap2 := hY.rd.cap
  have hmax2 := hY.rd.max
  obtain ⟨DE, hDE⟩ : ∃ DE, DE = txV hh hd (.slice A n C) hs SQ (.slice Am m Cm) := ⟨_, rfl⟩
  rw [← hDE] at HTa HLg HXl HX1 HB1 hXl ⊢
  have HSz2 : Hid ((Try.prog.info? 68).map (·.size) = some DE.length) := Lib.hid (by rw [HXl.out]; exact infoTx)
  have HSz3 : Hid ((Try.prog.info? 65).map (·.size) = some SQ.length) := Lib.hid (by rw [HQl.out]; exact infoSq)
  clear hM hMi hT hY hYi hql hxl hDE
  generalize hTD : (⟨hh, hd, ms, hs, ⟨k, br, og, cu, ts, dn, md, st⟩, ys⟩ : TxD) = TD at *
  clear hTD
  have HPost : Hid (∀ (e : Ending) (w' : World), Below w.heap.size w w' → ((txE TD ≠ 0 ∧ e = .returned (.tuple #[.slice none 0 0, .int .i64 (txE TD)])) ∨ (txE TD = 0 ∧ ∃ A C, e = .returned (.tuple #[.slice A (txB TD).length C, .int .i64 0]) ∧ w'.ownsRow w.heap.size 5 1 (.slice A (txB TD).length C) (txB TD).length (bv (txB TD)))) → TxRet TD w e w') := Lib.hid (fun e w' h1 h2 => ⟨h1, h2⟩)
  generalize hPD : TxRet TD w = PO at *
  clear hPD
  go_enter Try.func30, Try.ntmps30
  go_upto_region 1 with (fail)
  generalize w.alloc (.cells DE.toArray 68) = wA at *
  obtain ⟨X, hX⟩ : ∃ X, X = w.heap.size := ⟨_, rfl⟩
  rw [← hX] at HX1 HTa HSa hXl ⊢
  have hXw : w.heap.size ≤ X := by omega
  clear hX
  have HA2 := Lib.hid (HTa.out wA HX1.out)
  have hc2 : wA.cell? ⟨X, 2, none⟩ = some (.slice A n C) := HA2.out.c2
  have hc3 : wA.cell? ⟨X, 3, none⟩ = some (.bool hs) := HA2.out.c3
  have hc74 : wA.cell? ⟨X, 74, none⟩ = some (.slice Am m Cm) := HA2.out.mm
  have hc4 : wA.cell? ⟨X, 4, none⟩ = some (.int .i64 k) := (HSa.out wA HA2.out.sq).c0
  have hc70 : wA.cell? ⟨X, 70, none⟩ = some (.slice At nt Ct) := (HSa.out wA HA2.out.sq).td
  have hs2 : w.heap.size ≤ wA.heap.size := HB1.out.size
  have HBrL : Hid (rlgB hh hd ms hs k br = false → (hs = true → k ≠ 0 → br.size ≤ 255) ∧ (hh = true → hd.size ≤ 255) ∧ ∀ x ∈ ms, x.nm.size ≤ 255 ∧ x.wy.size ≤ 65535) := Lib.hid (fun h => by
    unfold rlgB at h
    simp only [Bool.or_eq_false_iff] at h
    obtain ⟨⟨h1, h2⟩, h3⟩ := h
    refine ⟨fun a b => ?_, fun a => ?_, fun x hx => ?_⟩
    · subst a; simp [b] at h2; exact h2
    · subst a; simp at h1; exact h1
    · have := List.any_eq_false.1 h3 x hx
      simp [mlB] at this
      exact this)
  by_cases g1 : 65535 < n
  · have hd1 : decide ((65535 : Int) < (n : Int)) = true := by simp; omega
    have HE : Hid (txE TD = 4) := Lib.hid (by rw [HTE.out, if_pos (.inl (by rw [HMl.out]; exact g1))])
    go_wp2_with fail
    exact HPost.out _ _ HB1.out (.inl ⟨by rw [HE.out]; decide, by rw [HE.out] <;> rfl⟩)
  have hd1 : decide ((65535 : Int) < (n : Int)) = false := by simp; omega
  by_cases g2 : 65535 < m
  · have hd2 : decide ((65535 : Int) < (m : Int)) = true := by simp; omega
    have HE : Hid (txE TD = 4) := Lib.hid (by rw [HTE.out, if_pos (.inr (.inl (by rw [HYl.out]; exact g2)))])
    go_wp2_with fail
    exact HPost.out _ _ HB1.out (.inl ⟨by rw [HE.out]; decide, by rw [HE.out] <;> rfl⟩)
  have hd2 : decide ((65535 : Int) < (m : Int)) = false := by simp; omega
  by_cases g3 : hs = true ∧ k ≠ 0 ∧ 65535 < nt
  · obtain ⟨rfl, h4, h5⟩ := g3
    have hk0 : (k != 0) = true := by simp [h4]
    have hd3 : decide ((65535 : Int) < (nt : Int)) = true := by simp; omega
    have HE : Hid (txE TD = 4) := Lib.hid (by rw [HTE.out, if_pos (.inr (.inr ⟨rfl, h4, by rw [HTl.out]; exact h5⟩))])
    go_wp2_with fail
    exact HPost.out _ _ HB1.out (.inl ⟨by rw [HE.out]; decide, by rw [HE.out] <;> rfl⟩)
  have HTE2 : Hid (txE TD = if rlgB hh hd ms hs k br = true then 5 else if hs = true ∧ rnfB ts k dn md = false then 1 else 0) := Lib.hid (by rw [HTE.out, if_neg (by rw [HMl.out, HYl.out, HTl.out]; rintro (h | h | h); (· exact g1 h); (· exact g2 h); exact g3 h)])
  have HLc := Lib.hid (HLg.out wA (HM.out.below HB1.out hG) (by omega))
  have HXr2 := Lib.hid (row_range HX1.out HXl.out)
  have hway : (hs = false) ∨ (hs = true ∧ k = 0) ∨ (hs = true ∧ k ≠ 0 ∧ ¬ 65535 < nt) := by
    cases hs
    · exact .inl rfl
    · by_cases hk : k = 0
      · exact .inr (.inl ⟨rfl, hk⟩)
      · exact .inr (.inr ⟨rfl, hk, fun h => g3 ⟨rfl, hk, h⟩⟩)
  clear g3 HTE HLg
  go_cut [35] (fun s35 wx => s35 = .bool false ∧ wx = wA)
  case first =>
    rcases hway with hw | ⟨hw, hk⟩ | ⟨hw, hk, hk3⟩
    · rw [hw] at hc3
      clear hw
      go_wp2_with fail
      go_meet
      exact ⟨rfl, rfl⟩
    · rw [hw] at hc3
      rw [hk] at hc4
      clear hw hk
      go_wp2_with fail
      go_meet
      exact ⟨rfl, rfl⟩
    · rw [hw] at hc3
      have hk0 : (k != 0) = true := by simp [hk]
      have hd3 : decide ((65535 : Int) < (nt : Int)) = false := by simp; omega
      clear hw hk
      go_wp2_with fail
      go_meet
      exact ⟨rfl, rfl⟩
  case rest =>
    obtain ⟨rfl, hwc⟩ := hcut
    rw [hwc]
    clear hwc hway hd1 hd2 hc2 hc3 hc74 hc4 hc70
    go_wp2_with (refine wpList_load_mid rfl _ _ rfl X 0 rfl DE _ HXr2.out Try.underlying68 rfl HSz2.out ?_)
    refine HLc.out.mono ?_
    rintro e w3 ⟨rfl, hb⟩
    have HB3 := Lib.hid (HB1.out.trans (hb.mono hs2))
    have HX3 := Lib.hid (World.rowIs.of_block HX1.out (hb.block X hXl))
    clear hb HLc HXr2 HX1 HA2 HB1 hXl hs2
    have hX3l := HX3.out.lt
    have hs3 : w.heap.size ≤ w3.heap.size := HB3.out.size
    cases hlg : rlgB hh hd ms hs k br
    rotate_left
    · have HE : Hid (txE TD = 5) := Lib.hid (by rw [HTE2.out, hlg]; rfl)
      clear hlg
      go_wp2_with fail
      exact HPost.out _ _ HB3.out (.inl ⟨by rw [HE.out]; decide, by rw [HE.out]; rfl⟩)
    have HTE3 : Hid (txE TD = if hs = true ∧ rnfB ts k dn md = false then 1 else 0) := Lib.hid (by rw [HTE2.out, hlg]; rfl)
    obtain ⟨hl1, hl2, hl3⟩ := HBrL.out hlg
    have HLb := Lib.hid hl1
    have HLh := Lib.hid hl2
    have HLm := Lib.hid hl3
    clear hlg HTE2 HBrL hl1 hl2 hl3
    have hc0 : w3.cell? ⟨X, 0, none⟩ = some (.bool hh) := (HTa.out w3 HX3.out).c0
    have hc3 : w3.cell? ⟨X, 3, none⟩ = some (.bool hs) := (HTa.out w3 HX3.out).c3
    obtain ⟨f0, hf0⟩ : ∃ f0 : Int, f0 = (if hh = true then 1 else 0) := ⟨_, rfl⟩
    obtain ⟨f1, hf1⟩ : ∃ f1 : Int, f1 = fgB hh hs := ⟨_, rfl⟩
    have Hf0 := Lib.hid hf0
    have Hf1 := Lib.hid hf1
    have hf10 : 0 ≤ f1 := by rw [hf1]; unfold fgB; cases hh <;> cases hs <;> decide
    have hf11 : f1 ≤ 255 := by rw [hf1]; unfold fgB; cases hh <;> cases hs <;> decide
    clear hf0 hf1
    go_upto_if 39 with (fail)
    go_cut [4] (fun s4 wx => s4 = .int .u8 f0 ∧ wx = w3)
    case first =>
      cases hh
      · go_wp2_with fail
        go_meet
        exact ⟨by rw [Hf0.out]; rfl, rfl⟩
      · go_wp2_with fail
        go_meet
        exact ⟨by rw [Hf0.out]; rfl, rfl⟩
    case rest =>
      obtain ⟨rfl, hwc⟩ := hcut
      rw [hwc]
      clear hwc
      go_upto_if 41 with (fail)
      go_cut [4] (fun s4 wx => s4 = .int .u8 f1 ∧ wx = w3)
      case first =>
        cases hs
        · go_wp2_with fail
          go_meet
          exact ⟨by rw [Hf0.out, Hf1.out]; simp [fgB], rfl⟩
        · have hadd : IntKind.u8.wrap (f0 + 2) = f1 := by rw [Hf0.out, Hf1.out]; cases hh <;> decide
          go_wp2_with fail
          go_meet
          exact ⟨rfl, rfl⟩
      case rest =>
        obtain ⟨rfl, hwc⟩ := hcut
        rw [hwc]
        clear hwc hc0 hc3 Hf0
        have hb5 := HB3.out.alloc hs3 (.cells #[.int .u8 f1] 5)
        have HS0 : Hid (Bs w w.heap.size X 68 75 DE (w3.alloc (.cells #[.int .u8 f1] 5)) (.slice (some ⟨w3.heap.size, 0, none⟩) 1 1) 1 [f1]) := Lib.hid ⟨own_base (own_lit w3 [f1] (by unfold maxLen; simp)) hs3, HX3.out.alloc _, hb5, KeptT.of_below hb5, Nat.le_refl _⟩
        clear hb5 HX3 HB3 hs3 hX3l
        go_upto_region 11 with (fail)
        change Code.wp _ _ _ _ (w3.alloc (.cells #[.int .u8 f1] 5))
        generalize w3.alloc (.cells #[.int .u8 f1] 5) = w5 at *
        generalize w3.heap.size = g5 at *
        have hc0 : w5.cell? ⟨X, 0, none⟩ = some (.bool hh) := (HTa.out w5 HS0.out.row).c0
        obtain ⟨H1, hH1⟩ : ∃ H1 : List Int, H1 = (if hh = true then be 1 hd.size ++ sv hd else []) := ⟨_, rfl⟩
        have HH1 := Lib.hid hH1
        have HH1t := Lib.hid hH1
        clear hH1
        go_upto_if 47 with (fail)
        clear hc0
        go_cut [5] (fun s4 wx => ∃ (A1 : Option Addr) (n1 C1 : Nat), s4 = .slice A1 n1 C1 ∧ n1 ≤ 300 ∧ Hid (Bs w w.heap.size X 68 75 DE wx (.slice A1 n1 C1) n1 (f1 :: H1)))
        case first =>
          cases hh
          · go_wp2_with fail
            go_meet
            refine ⟨_, 1, 1, rfl, by omega, ?_⟩
            rw [HH1.out]
            exact HS0
          · have hL2 := HLh.out rfl
            have hc1 : w5.cell? ⟨X, 1, none⟩ = some (.string hd) := (HTa.out w5 HS0.out.row).c1
            have HTx := Lib.hid (rtext1_k w.heap.size (.slice (some ⟨g5, 0, none⟩) 1 1) 1 (bv [f1]) hd w5 HS0.out.base HS0.out.own (by omega) hL2)
            go_wp2_with fail
            refine HTx.out.mono ?_
            intro e w1 hr
            obtain ⟨A1, C1, rfl, hs⟩ := HS0.out.pair (by decide) hr (txt_cells 1 hd)
            obtain ⟨n1, hn1⟩ : ∃ n1, n1 = 1 + 1 + hd.size := ⟨_, rfl⟩
            rw [← hn1] at hs ⊢
            have hl1 : n1 ≤ 264 := by omega
            obtain ⟨E1, hE1⟩ : ∃ E1, E1 = [f1] ++ (be 1 hd.size ++ sv hd) := ⟨_, rfl⟩
            rw [← hE1] at hs
            have HE1 := Lib.hid hE1
            have HS1 := Lib.hid hs
            clear hn1 hs hr HTx HS0 hE1
            clear hc1
            have hl2' : n1 ≤ 300 := by have := HS1.out.len; rw [HE1.out] at this; simp [be_length, sv_len] at this; omega
            go_wp2_with fail
            go_meet
            refine ⟨A1, n1, C1, rfl, hl2', ?_⟩
            rw [HH1.out]
            simp only [if_true]
            have h := HS1.out
            rw [HE1.out] at h
            exact Lib.hid h
        case rest =>
          obtain ⟨A1, n1, C1, rfl, hl1, HS1⟩ := hcut
          clear HS0
          obtain ⟨E1, hE1⟩ : ∃ E1, E1 = f1 :: H1 := ⟨_, rfl⟩
          rw [← hE1] at HS1
          have HE1 := Lib.hid hE1
          clear hE1
          have hc2 : wc.cell? ⟨X, 2, none⟩ = some (.slice A n C) := (HTa.out wc HS1.out.row).c2
          have HTx := Lib.hid (rnum_k w.heap.size (.slice A1 n1 C1) n1 (bv E1) (n : Int) 2 wc HS1.out.base HS1.out.own (by omega) (by omega) (by omega) (by omega))
          go_wp2_with fail
          refine HTx.out.mono ?_
          intro e w2 hr
          obtain ⟨A2, C2, rfl, hs⟩ := HS1.out.ret (by decide) hr rfl
          obtain ⟨n2, hn2⟩ : ∃ n2, n2 = n1 + 2 := ⟨_, rfl⟩
          rw [← hn2] at hs ⊢
          have hl2 : n2 ≤ 302 := by omega
          obtain ⟨E2, hE2⟩ : ∃ E2, E2 = E1 ++ be 2 (n : Int) := ⟨_, rfl⟩
          rw [← hE2] at hs
          have HE2 := Lib.hid hE2
          have HS2 := Lib.hid hs
          clear hn2 hs hr HTx HS1 hE2
          clear hc2
          go_wp2_with fail
          go_loopw [5, 6] (fun b i wr => ∃ (j q : Nat) (Ar : Option Addr) (Cr : Nat), b = .slice Ar q Cr ∧ i = .int .i64 j ∧ j ≤ n ∧ q ≤ 302 + 70000 * j ∧ Hid (Bs w w.heap.size X 68 75 DE wr (.slice Ar q Cr) q (E2 ++ mvBs (ms.take j)))) (fun _ i _ => n - (intOf i).toNat)
          case atStart => exact ⟨0, n2, A2, C2, rfl, rfl, Nat.zero_le _, by omega, Lib.hid (by rw [List.take_zero, show mvBs [] = [] from rfl, List.append_nil]; exact HS2.out)⟩
          case round =>
            clear HS2
            obtain ⟨j, n6, A6, C6, rfl, rfl, hj, hq, HS6⟩ := hrel
            have hc2 : wr.cell? ⟨X, 2, none⟩ = some (.slice A n C) := (HTa.out wr HS6.out.row).c2
            by_cases hlt : j < n
            · obtain ⟨gm, om, hA, hgl, hcc⟩ := HM.out.rd.cell (by omega)
              obtain ⟨t, ht⟩ : ∃ t, t = ms.getD j default := ⟨_, rfl⟩
              have htm : t ∈ ms := by rw [ht]; exact getD_memI (by rw [HMl.out]; exact hlt)
              have hti := HMi.out t htm
              have htz := HLm.out t htm
              have hz3 := htz.1
              have hz4 := htz.2
              have HTC : Hid (∀ W : World, Below w.heap.size w W → MvO W gm (om + j * 66) t) := Lib.hid (fun W hb => by
                refine mv_o hti.1.1 hti.2.1 ?_
                have h := range_below hb (hcc j hlt) (by omega)
                rw [map_getD _ (by rw [HMl.out]; exact hlt), ← ht] at h
                exact h)
              subst hA
              have HIo := Lib.hid hti.1
              have HIw := Lib.hid hti.2
              obtain ⟨Ej, hEj⟩ : ∃ Ej, Ej = E2 ++ mvBs (ms.take j) := ⟨_, rfl⟩
              have hs7 := HS6.out
              rw [← hEj] at hs7
              have HS7 := Lib.hid hs7
              have HEj := Lib.hid hEj
              have hst := mvBs_take ms j (by rw [HMl.out]; exact hlt)
              rw [← ht] at hst
              have HSt := Lib.hid hst
              have hj0 : (0 : Int) ≤ (j : Int) := by omega
              have hj1 : (j : Int) < (n : Int) := by omega
              have HIz : Hid ((Try.prog.info? 37).map (·.size) = some (bv t.od).length) := Lib.hid (by rw [bv_len, hti.1.1]; exact infoId)
              have HIy : Hid ((Try.prog.info? 37).map (·.size) = some (bv t.nw).length) := Lib.hid (by rw [bv_len, hti.2.1]; exact infoId)
              clear hcc hst ht htm hti htz HS6 hs7 hEj
              have hcn : wr.cell? ⟨gm, om + j * 66, none⟩ = some (.string t.nm) := (HTC.out wr HS7.out.bel).nm
              have HTx := Lib.hid (rtext1_k w.heap.size (.slice A6 n6 C6) n6 (bv Ej) t.nm wr HS7.out.base HS7.out.own (by omega) hz3)
              go_wp2_with fail
              refine HTx.out.mono ?_
              intro e w8 hr
              obtain ⟨A8, C8, rfl, hs⟩ := HS7.out.pair (by decide) hr (txt_cells 1 t.nm)
              obtain ⟨n8, hn8⟩ : ∃ n8, n8 = n6 + 1 + t.nm.size := ⟨_, rfl⟩
              rw [← hn8] at hs ⊢
              have hl8 : n8 ≤ 565 + 70000 * j := by omega
              obtain ⟨E8, hE8⟩ : ∃ E8, E8 = Ej ++ (be 1 t.nm.size ++ sv t.nm) := ⟨_, rfl⟩
              rw [← hE8] at hs
              have HE8 := Lib.hid hE8
              have HS8 := Lib.hid hs
              clear hn8 hs hr HTx HS7 hE8
              clear hcn hc2
              go_wp2_with fail
              have dS := Lib.hid HS8.out.drew
              clear HS8
              have dC : Hid (w8.drew.cell? ⟨X, 2, none⟩ = some (.slice (some ⟨gm, om, none⟩) n C) ∧ w8.drew.rangeAt gm (om + j * 66 + 1) (bv t.od) ∧ w8.drew.rangeAt gm (om + j * 66 + 33) (bv t.nw)) := Lib.hid ⟨(HTa.out _ dS.out.row).c2, (HTC.out _ dS.out.bel).od, (HTC.out _ dS.out.bel).nw⟩
              refine wp_region_noPanic ?_
              refine wp_region_held_drew (S := (fun wS => wS.cell? ⟨X, 2, none⟩ = some (.slice (some ⟨gm, om, none⟩) n C) ∧ wS.rangeAt gm (om + j * 66 + 1) (bv t.od) ∧ wS.rangeAt gm (om + j * 66 + 33) (bv t.nw))) (by kernel_rfl) ?_ (fun hHeld => ?_)
              · ((try dsimp only); exact dC.out)
              refine wpAnyH_take (i := 0) (oi := { dst := some 79, op := Op.move (Operand.tmp 5), type := 23, pos := "ref.go:333", after := #[], guard := none }) (v := ?_) rfl (by kernel_rfl) (by kernel_rfl) (by kernel_rfl) (fun _ _ _ h => h) (Or.inl ⟨by rfl, ?_⟩) (by assumption) ?_
              rotate_left 1
              · ((intro w hSw; (try dsimp only at hSw); go_simp) <;> with_reducible rfl)
              (try simp only [Act.put, List.setIfInBounds_toArray, List.set_cons_zero, List.set_cons_succ])
              refine wpAnyH_take (i := 1) (oi := { dst := some 80, op := Op.fieldAddr 68 (Operand.tmp 1) 2, type := 0, pos := "ref.go:333", after := #[], guard := none }) (v := ?_) rfl (by kernel_rfl) (by kernel_rfl) (by kernel_rfl) (fun _ _ _ h => h) (Or.inl ⟨by rfl, ?_⟩) (by assumption) ?_
              rotate_left 1
              · ((intro w hSw; (try dsimp only at hSw); go_simp) <;> with_reducible rfl)
              (try simp only [Act.put, List.setIfInBounds_toArray, List.set_cons_zero, List.set_cons_succ])
              refine wpAnyH_take (i := 2) (oi := { dst := some 81, op := Op.load 62 (Operand.tmp 80), type := 62, pos := "ref.go:333", after := #[{ on := 1, ground := Ground.data }], guard := none }) (v := ?_) rfl (by kernel_rfl) (by kernel_rfl) (by kernel_rfl) (fun _ _ _ h => h) (Or.inl ⟨by rfl, ?_⟩) (by assumption) ?_
              rotate_left 1
              · ((intro w hSw; (try dsimp only at hSw); go_simp) <;> with_reducible rfl)
              (try simp only [Act.put, List.setIfInBounds_toArray, List.set_cons_zero, List.set_cons_succ])
              refine wpAnyH_take (i := 3) (oi := { dst := some 82, op := Op.move (Operand.tmp 6), type := 3, pos := "ref.go:333", after := #[], guard := none }) (v := ?_) rfl (by kernel_rfl) (by kernel_rfl) (by kernel_rfl) (fun _ _ _ h => h) (Or.inl ⟨by rfl, ?_⟩) (by assumption) ?_
              rotate_left 1
              · ((intro w hSw; (try dsimp only at hSw); go_simp) <;> with_reducible rfl)
              (try simp only [Act.put, List.setIfInBounds_toArray, List.set_cons_zero, List.set_cons_succ])
              refine wpAnyH_take (i := 4) (oi := { dst := some 83, op := Op.indexAddr 62 (Operand.tmp 81) (Operand.tmp 82), type := 0, pos := "ref.go:333", after := #[{ on := 2, ground := Ground.data }, { on := 3, ground := Ground.data }], guard := none }) (v := ?_) rfl (by kernel_rfl) (by kernel_rfl) (by kernel_rfl) (fun _ _ _ h => h) (Or.inl ⟨by rfl, ?_⟩) (by assumption) ?_
              rotate_left 1
              · ((intro w hSw; (try dsimp only at hSw); go_simp) <;> with_reducible rfl)
              (try simp only [Act.put, List.setIfInBounds_toArray, List.set_cons_zero, List.set_cons_succ])
              refine wpAnyH_take (i := 5) (oi := { dst := some 84, op := Op.fieldAddr 126 (Operand.tmp 83) 1, type := 0, pos := "ref.go:333", after := #[{ on := 4, ground := Ground.data }], guard := none }) (v := ?_) rfl (by kernel_rfl) (by kernel_rfl) (by kernel_rfl) (fun _ _ _ h => h) (Or.inl ⟨by rfl, ?_⟩) (by assumption) ?_
              rotate_left 1
              · ((intro w hSw; (try dsimp only at hSw); go_simp) <;> with_reducible rfl)
              (try simp only [Act.put, List.setIfInBounds_toArray, List.set_cons_zero, List.set_cons_succ])
              refine' wpAnyH_take (i := 6) (oi := { dst := some 85, op := Op.load 37 (Operand.tmp 84), type := 37, pos := "ref.go:333", after := #[{ on := 5, ground := Ground.data }], guard := none }) (v := _) rfl (by kernel_rfl) (by kernel_rfl) (by kernel_rfl) (fun _ _ _ h => h) (yieldsIf_load_mid (by rfl) _ _ rfl _ _ rfl (bv t.od) _ (fun w hSw => hSw.2.1) Try.underlying37 rfl HIz.out) (by assumption) ?_
              (try simp only [Act.put, List.setIfInBounds_toArray, List.set_cons_zero, List.set_cons_succ])
              refine wpAnyH_take (i := 8) (oi := { dst := some 87, op := Op.fieldAddr 68 (Operand.tmp 1) 2, type := 0, pos := "ref.go:333", after := #[], guard := none }) (v := ?_) rfl (by kernel_rfl) (by kernel_rfl) (by kernel_rfl) (fun _ _ _ h => h) (Or.inl ⟨by rfl, ?_⟩) (by assumption) ?_
              rotate_left 1
              · ((intro w hSw; (try dsimp only at hSw); go_simp) <;> with_reducible rfl)
              (try simp only [Act.put, List.setIfInBounds_toArray, List.set_cons_zero, List.set_cons_succ])
              refine wpAnyH_take (i := 9) (oi := { dst := some 88, op := Op.load 62 (Operand.tmp 87), type := 62, pos := "ref.go:333", after := #[{ on := 8, ground := Ground.data }], guard := none }) (v := ?_) rfl (by kernel_rfl) (by kernel_rfl) (by kernel_rfl) (fun _ _ _ h => h) (Or.inl ⟨by rfl, ?_⟩) (by assumption) ?_
              rotate_left 1
              · ((intro w hSw; (try dsimp only at hSw); go_simp) <;> with_reducible rfl)
              (try simp only [Act.put, List.setIfInBounds_toArray, List.set_cons_zero, List.set_cons_succ])
              refine wpAnyH_take (i := 10) (oi := { dst := some 89, op := Op.move (Operand.tmp 6), type := 3, pos := "ref.go:333", after := #[], guard := none }) (v := ?_) rfl (by kernel_rfl) (by kernel_rfl) (by kernel_rfl) (fun _ _ _ h => h) (Or.inl ⟨by rfl, ?_⟩) (by assumption) ?_
              rotate_left 1
              · ((intro w hSw; (try dsimp only at hSw); go_simp) <;> with_reducible rfl)
              (try simp only [Act.put, List.setIfInBounds_toArray, List.set_cons_zero, List.set_cons_succ])
              refine wpAnyH_take (i := 11) (oi := { dst := some 90, op := Op.indexAddr 62 (Operand.tmp 88) (Operand.tmp 89), type := 0, pos := "ref.go:333", after := #[{ on := 9, ground := Ground.data }, { on := 10, ground := Ground.data }], guard := none }) (v := ?_) rfl (by kernel_rfl) (by kernel_rfl) (by kernel_rfl) (fun _ _ _ h => h) (Or.inl ⟨by rfl, ?_⟩) (by assumption) ?_
              rotate_left 1
              · ((intro w hSw; (try dsimp only at hSw); go_simp) <;> with_reducible rfl)
              (try simp only [Act.put, List.setIfInBounds_toArray, List.set_cons_zero, List.set_cons_succ])
              refine wpAnyH_take (i := 12) (oi := { dst := some 91, op := Op.fieldAddr 126 (Operand.tmp 90) 2, type := 0, pos := "ref.go:333", after := #[{ on := 11, ground := Ground.data }], guard := none }) (v := ?_) rfl (by kernel_rfl) (by kernel_rfl) (by kernel_rfl) (fun _ _ _ h => h) (Or.inl ⟨by rfl, ?_⟩) (by assumption) ?_
              rotate_left 1
              · ((intro w hSw; (try dsimp only at hSw); go_simp) <;> with_reducible rfl)
              (try simp only [Act.put, List.setIfInBounds_toArray, List.set_cons_zero, List.set_cons_succ])
              refine' wpAnyH_take (i := 13) (oi := { dst := some 92, op := Op.load 37 (Operand.tmp 91), type := 37, pos := "ref.go:333", after := #[{ on := 12, ground := Ground.data }], guard := none }) (v := _) rfl (by kernel_rfl) (by kernel_rfl) (by kernel_rfl) (fun _ _ _ h => h) (yieldsIf_load_mid (by rfl) _ _ rfl _ _ rfl (bv t.nw) _ (fun w hSw => hSw.2.2) Try.underlying37 rfl HIy.out) (by assumption) ?_
              (try simp only [Act.put, List.setIfInBounds_toArray, List.set_cons_zero, List.set_cons_succ])
              refine wpAnyH_ready (rs := [7]) (by kernel_rfl) (by simp) ?_
              refine AllReadyH.cons (o := { dst := some 86, op := Op.call { callee := Callee.value (Operand.func 43), args := #[Operand.tmp 79, Operand.tmp 85], argTypes := #[23, 37] }, type := 23, pos := "ref.go:333", after := #[{ on := 0, ground := Ground.data }, { on := 6, ground := Ground.data }], guard := none }) rfl (fun K hK => ?_) ?_
              · go_simp
                have HNr := Lib.hid (put_k w.heap.size (.slice A8 n8 C8) n8 (bv E8) t.od HIo.out.1 w8.drew dS.out.base dS.out.own (by omega))
                refine HNr.out.mono ?_
                clear HNr
                intro e w9 hr
                obtain ⟨A9, C9, rfl, hs⟩ := dS.out.ret (by decide) hr rfl
                have eS := Lib.hid hs
                have eC : Hid (w9.cell? ⟨X, 2, none⟩ = some (.slice (some ⟨gm, om, none⟩) n C) ∧ w9.rangeAt gm (om + j * 66 + 1) (bv t.od) ∧ w9.rangeAt gm (om + j * 66 + 33) (bv t.nw)) := Lib.hid ⟨(HTa.out _ eS.out.row).c2, (HTC.out _ eS.out.bel).od, (HTC.out _ eS.out.bel).nw⟩
                clear dS dC hr hs
                have dS := eS
                have dC := eC
                clear eS eC
                (try go_wp2_with fail)
                refine hK.out _ _ ?_ (fun hNew => ?_)
                · ((try dsimp only); exact dC.out)
                clear hK K hHeld
                have hHeld := hNew
                clear hNew
                (try simp only [Act.put, List.setIfInBounds_toArray, List.set_cons_zero, List.set_cons_succ])
                refine wpAnyH_ready (rs := [14]) (by kernel_rfl) (by simp) ?_
                refine AllReadyH.cons (o := { dst := some 93, op := Op.call { callee := Callee.value (Operand.func 43), args := #[Operand.tmp 86, Operand.tmp 92], argTypes := #[23, 37] }, type := 23, pos := "ref.go:333", after := #[{ on := 7, ground := Ground.data }, { on := 13, ground := Ground.data }, { on := 7, ground := Ground.chain }], guard := none }) rfl (fun K hK => ?_) ?_
                · go_simp
                  have HNr := Lib.hid (put_k w.heap.size (.slice A9 (n8 + 32) C9) (n8 + 32) (bv (E8 ++ t.od)) t.nw HIw.out.1 w9 dS.out.base dS.out.own (by omega))
                  refine HNr.out.mono ?_
                  clear HNr
                  intro e w10 hr
                  obtain ⟨A10, C10, rfl, hs⟩ := dS.out.ret (by decide) hr rfl
                  have eS := Lib.hid hs
                  have eC : Hid (w10.cell? ⟨X, 2, none⟩ = some (.slice (some ⟨gm, om, none⟩) n C) ∧ w10.rangeAt gm (om + j * 66 + 1) (bv t.od) ∧ w10.rangeAt gm (om + j * 66 + 33) (bv t.nw)) := Lib.hid ⟨(HTa.out _ eS.out.row).c2, (HTC.out _ eS.out.bel).od, (HTC.out _ eS.out.bel).nw⟩
                  clear dS dC hr hs
                  have dS := eS
                  have dC := eC
                  clear eS eC
                  (try go_wp2_with fail)
                  refine hK.out _ _ ?_ (fun hNew => ?_)
                  · ((try dsimp only); exact dC.out)
                  clear hK K hHeld
                  have hHeld := hNew
                  clear hNew
                  (try simp only [Act.put, List.setIfInBounds_toArray, List.set_cons_zero, List.set_cons_succ])
                  refine wpAnyH_take (i := 15) (oi := { dst := some 5, op := Op.assign (Operand.tmp 93), type := 23, pos := "ref.go:333", after := #[{ on := 14, ground := Ground.data }, { on := 14, ground := Ground.chain }, { on := 0, ground := Ground.phase }, { on := 1, ground := Ground.phase }, { on := 2, ground := Ground.phase }, { on := 3, ground := Ground.phase }, { on := 4, ground := Ground.phase }, { on := 5, ground := Ground.phase }, { on := 6, ground := Ground.phase }, { on := 7, ground := Ground.phase }, { on := 8, ground := Ground.phase }, { on := 9, ground := Ground.phase }, { on := 10, ground := Ground.phase }, { on := 11, ground := Ground.phase }, { on := 12, ground := Ground.phase }, { on := 13, ground := Ground.phase }, { on := 14, ground := Ground.phase }], guard := none }) (v := ?_) rfl (by kernel_rfl) (by kernel_rfl) (by kernel_rfl) (fun _ _ _ h => h) (Or.inl ⟨by rfl, ?_⟩) (by assumption) ?_
                  rotate_left 1
                  · ((intro w hSw; (try dsimp only at hSw); go_simp) <;> with_reducible rfl)
                  (try simp only [Act.put, List.setIfInBounds_toArray, List.set_cons_zero, List.set_cons_succ])
                  refine wpAnyH_done (by kernel_rfl) ?_ _
                  refine NoPanic.normal ?_
                  clear hHeld dC
                  obtain ⟨n10, hn10⟩ : ∃ n10, n10 = n8 + 32 + 32 := ⟨_, rfl⟩
                  have hs10 := dS.out
                  rw [← hn10] at hs10 ⊢
                  have hl10 : n10 ≤ 629 + 70000 * j := by omega
                  obtain ⟨E10, hE10⟩ : ∃ E10, E10 = E8 ++ t.od ++ t.nw := ⟨_, rfl⟩
                  rw [← hE10] at hs10
                  have HE10 := Lib.hid hE10
                  have HS10 := Lib.hid hs10
                  clear hn10 hs10 hE10 dS
                  have hc2 : w10.cell? ⟨X, 2, none⟩ = some (.slice (some ⟨gm, om, none⟩) n C) := (HTa.out w10 HS10.out.row).c2
                  have hcn : w10.cell? ⟨gm, om + j * 66 + 65, none⟩ = some (.string t.wy) := (HTC.out w10 HS10.out.bel).wy
                  have HTx := Lib.hid (rtext2_k w.heap.size (.slice A10 n10 C10) n10 (bv E10) t.wy w10 HS10.out.base HS10.out.own (by omega) hz4)
                  go_wp2_with fail
                  refine HTx.out.mono ?_
                  intro e w11 hr
                  obtain ⟨A11, C11, rfl, hs⟩ := HS10.out.pair (by decide) hr (txt_cells 2 t.wy)
                  obtain ⟨n11, hn11⟩ : ∃ n11, n11 = n10 + 2 + t.wy.size := ⟨_, rfl⟩
                  rw [← hn11] at hs ⊢
                  have hl11 : n11 ≤ 66172 + 70000 * j := by omega
                  obtain ⟨E11, hE11⟩ : ∃ E11, E11 = E10 ++ (be 2 t.wy.size ++ sv t.wy) := ⟨_, rfl⟩
                  rw [← hE11] at hs
                  have HE11 := Lib.hid hE11
                  have HS11 := Lib.hid hs
                  clear hn11 hs hr HTx HS10 hE11
                  clear hcn hc2
                  have HS12 : Hid (Bs w w.heap.size X 68 75 DE w11 (.slice A11 n11 C11) n11 (E2 ++ mvBs (ms.take (j + 1)))) := Lib.hid (by
                    have h := HS11.out
                    rw [HE11.out, HE10.out, HE8.out, HEj.out] at h
                    rw [HSt.out]
                    simpa [mvB, List.append_assoc] using h)
                  clear HE8 HE10 HE11 HS11 HEj
                  go_wp2_with fail
                  go_roundw
                  case rel => exact ⟨j + 1, n11, A11, C11, rfl, by go_num, by omega, by omega, HS12⟩
                  case measure => simp [intOf]; omega
                exact AllReadyH.nil
              exact AllReadyH.nil
            · have ej : j = n := by omega
              have hd2 : decide ((j : Int) < (n : Int)) = false := by simp; omega
              have hS : Bs w w.heap.size X 68 75 DE wr (.slice A6 n6 C6) n6 (f1 :: (H1 ++ be 2 (n : Int) ++ mvBs ms)) := by
                have h := HS6.out
                rw [ej, List.take_of_length_le (by rw [HMl.out]; exact Nat.le_refl _), HE2.out, HE1.out] at h
                simpa [List.append_assoc] using h
              have HS0 := Lib.hid hS
              have hl6 : n6 ≤ 302 + 70000 * n := by omega
              clear HS6 hS ej hq
              have hc3 : wr.cell? ⟨X, 3, none⟩ = some (.bool hs) := (HTa.out wr HS0.out.row).c3
              obtain ⟨H2, hH2⟩ : ∃ H2 : List Int, H2 = (if hs = true then sqBs k br og cu ts dn md st else []) := ⟨_, rfl⟩
              have HH2 := Lib.hid hH2
              have HH2t := Lib.hid hH2
              clear hH2
              obtain ⟨E6, hE6⟩ : ∃ E6, E6 = f1 :: (H1 ++ be 2 (n : Int) ++ mvBs ms) := ⟨_, rfl⟩
              have hs0 := HS0.out
              rw [← hE6] at hs0
              have HE6 := Lib.hid hE6
              have HS6 := Lib.hid hs0
              clear hE6 hs0 HS0
              have hl6' := HS6.out.len
              have HPc : Hid (hs = true → Calls Try.prog 73 #[.slice A6 n6 C6, .agg SQ.toArray] wr (RsRet w.heap.size n6 E6 k br og cu ts dn md st wr)) := Lib.hid (fun hh' => by
                have h := HPs.out w.heap.size (.slice A6 n6 C6) E6 wr HS6.out.base hG (by rw [← hl6']; exact HS6.out.own) (by omega) (HT.out.below HS6.out.bel hG) (HLb.out hh')
                rw [← hl6'] at h
                exact h)
              clear hl6'
              have HRq := Lib.hid (HTa.out wr HS6.out.row).sq
              by_cases hbad : hs = true ∧ rnfB ts k dn md = false
              · have HE : Hid (txE TD = 1) := Lib.hid (by rw [HTE3.out, if_pos hbad])
                obtain ⟨hht, hbd⟩ := hbad
                have HPd := Lib.hid (HPc.out hht)
                have HBd := Lib.hid hbd
                rw [hht] at hc3
                clear hht hbd HPc
                go_wp2_with (refine wpList_load_mid rfl _ _ rfl X 4 rfl SQ _ HRq.out Try.underlying65 rfl HSz3.out ?_)
                refine HPd.out.mono ?_
                rintro e w7 ⟨hb, hk, ⟨hy, -⟩ | ⟨-, v', rfl⟩⟩
                · rw [HBd.out] at hy; cases hy
                have HB7 := Lib.hid (HS6.out.bel.trans hb)
                clear hb hk
                go_wp2_with fail
                exact HPost.out _ _ HB7.out (.inl ⟨by rw [HE.out]; decide, by rw [HE.out] <;> rfl⟩)
              have HE : Hid (txE TD = 0) := Lib.hid (by rw [HTE3.out, if_neg hbad])
              have HGd := Lib.hid hbad
              clear hbad
              go_upto_if 106 with (fail)
              clear hc3
              go_cut [5] (fun s4 wx => ∃ (A1 : Option Addr) (n1 C1 : Nat), s4 = .slice A1 n1 C1 ∧ n1 ≤ 50000000302 + 70000 * n ∧ Hid (Bs w w.heap.size X 68 75 DE wx (.slice A1 n1 C1) n1 (f1 :: (H1 ++ be 2 (n : Int) ++ mvBs ms ++ H2))))
              case first =>
                cases hs
                · go_wp2_with fail
                  go_meet
                  refine ⟨A6, n6, C6, rfl, by omega, ?_⟩
                  have h := HS6.out
                  rw [HE6.out] at h
                  rw [HH2.out, if_neg (by decide), List.append_nil]
                  exact Lib.hid h
                · have HPd := Lib.hid (HPc.out rfl)
                  clear HPc
                  go_wp2_with (refine wpList_load_mid rfl _ _ rfl X 4 rfl SQ _ HRq.out Try.underlying65 rfl HSz3.out ?_)
                  refine HPd.out.mono ?_
                  rintro e w7 ⟨hb, hk, ⟨-, v', rfl, ho⟩ | ⟨hy, -⟩⟩
                  rotate_left
                  · exact absurd ⟨trivial, hy⟩ HGd.out
                  obtain ⟨A7, C7, rfl⟩ := own_slice' ho
                  have hs7 := HS6.out.next (by decide) ho hb hk
                  have hq7 : n6 + (sqBs k br og cu ts dn md st).length ≤ 50000000302 + 70000 * n := by
                    have h1 := HSQl.out
                    omega
                  have HS7 := Lib.hid hs7
                  clear hb hk ho hs7 HPd HRq
                  generalize n6 + (sqBs k br og cu ts dn md st).length = n7 at *
                  go_wp2_with fail
                  go_meet
                  refine ⟨A7, n7, C7, rfl, hq7, ?_⟩
                  have h := HS7.out
                  rw [HE6.out] at h
                  rw [HH2.out]
                  simp only [if_true]
                  exact Lib.hid (by simpa [List.append_assoc] using h)
              case rest =>
                obtain ⟨A1, n1, C1, rfl, hl1, HS1⟩ := hcut
                clear HS6 HPc HRq HH1 HH2 HPs hl6
                obtain ⟨E1, hE1⟩ : ∃ E1, E1 = f1 :: (H1 ++ be 2 (n : Int) ++ mvBs ms ++ H2) := ⟨_, rfl⟩
                rw [← hE1] at HS1
                have HE1x := Lib.hid hE1
                clear hE1
                have hc2 : wc.cell? ⟨X, 74, none⟩ = some (.slice Am m Cm) := (HTa.out wc HS1.out.row).mm
                have HTx := Lib.hid (rnum_k w.heap.size (.slice A1 n1 C1) n1 (bv E1) (m : Int) 2 wc HS1.out.base HS1.out.own (by omega) (by omega) (by omega) (by omega))
                go_wp2_with fail
                refine HTx.out.mono ?_
                intro e w2 hr
                obtain ⟨A2, C2, rfl, hs⟩ := HS1.out.ret (by decide) hr rfl
                obtain ⟨n2, hn2⟩ : ∃ n2, n2 = n1 + 2 := ⟨_, rfl⟩
                rw [← hn2] at hs ⊢
                have hl2 : n2 ≤ 50000000304 + 70000 * n := by omega
                obtain ⟨E2, hE2⟩ : ∃ E2, E2 = E1 ++ be 2 (m : Int) := ⟨_, rfl⟩
                rw [← hE2] at hs
                have HE2 := Lib.hid hE2
                have HS2 := Lib.hid hs
                clear hn2 hs hr HTx HS1 hE2
                clear hc2
                go_wp2_with fail
                go_loopw [5, 8] (fun b i wr => ∃ (j q : Nat) (Ar : Option Addr) (Cr : Nat), b = .slice Ar q Cr ∧ i = .int .i64 j ∧ j ≤ m ∧ q ≤ 60000000000 + 1000000100 * j ∧ Hid (Bs w w.heap.size X 68 75 DE wr (.slice Ar q Cr) q (E2 ++ myBs (ys.take j)))) (fun _ i _ => m - (intOf i).toNat)
                case atStart => exact ⟨0, n2, A2, C2, rfl, rfl, Nat.zero_le _, by omega, Lib.hid (by rw [List.take_zero, show myBs [] = [] from rfl, List.append_nil]; exact HS2.out)⟩
                case round =>
                  clear HS2
                  obtain ⟨j, n6, A6, C6, rfl, rfl, hj, hq, HS6⟩ := hrel
                  have hc2 : wr.cell? ⟨X, 74, none⟩ = some (.slice Am m Cm) := (HTa.out wr HS6.out.row).mm
                  by_cases hlt : j < m
                  · obtain ⟨gm, om, hA, hgl, hcc⟩ := HY.out.rd.cell (by omega)
                    obtain ⟨t, ht⟩ : ∃ t, t = ys.getD j default := ⟨_, rfl⟩
                    have htm : t ∈ ys := by rw [ht]; exact getD_memI (by rw [HYl.out]; exact hlt)
                    have hti := HYi.out t htm
                    have htn := (HY.out.ok t htm).2.1
                    have HDt : Hid (∀ W : World, Below w.heap.size w W → RdB W t.A t.n t.C t.l) := Lib.hid (fun W hb => ((HY.out.below hb (Nat.le_refl _) hG).ok t htm).2.2.rd)
                    have HTC : Hid (∀ W : World, Below w.heap.size w W → MyO W gm (om + j * 33) t) := Lib.hid (fun W hb => by
                      refine my_o hti.1 ?_
                      have h := range_below hb (hcc j hlt) (by omega)
                      rw [map_getD _ (by rw [HYl.out]; exact hlt), ← ht] at h
                      exact h)
                    subst hA
                    have HIk := Lib.hid hti
                    obtain ⟨Ej, hEj⟩ : ∃ Ej, Ej = E2 ++ myBs (ys.take j) := ⟨_, rfl⟩
                    have hs7 := HS6.out
                    rw [← hEj] at hs7
                    have HS7 := Lib.hid hs7
                    have HEj := Lib.hid hEj
                    have hst := myBs_take ys j (by rw [HYl.out]; exact hlt)
                    rw [← ht] at hst
                    have HSt := Lib.hid hst
                    have hj0 : (0 : Int) ≤ (j : Int) := by omega
                    have hj1 : (j : Int) < (m : Int) := by omega
                    have HTs : Hid ((Try.prog.info? 37).map (·.size) = some (bv t.key).length) := Lib.hid (by rw [bv_len, hti.1]; exact infoId)
                    have HR7 := Lib.hid (HTC.out wr HS7.out.bel).key
                    have HTl2 : Hid (t.l.length = t.n) := Lib.hid ((HY.out.ok t htm).2.2.rd.len)
                    clear hcc hst ht htm hti HS6 hs7 hEj
                    have HTx := Lib.hid (put_k w.heap.size (.slice A6 n6 C6) n6 (bv Ej) t.key HIk.out.1 wr HS7.out.base HS7.out.own (by omega))
                    go_wp2_with (refine wpList_load_mid rfl _ _ rfl gm (om + j * 33) rfl (bv t.key) _ HR7.out Try.underlying37 rfl HTs.out ?_)
                    refine HTx.out.mono ?_
                    intro e w8 hr
                    obtain ⟨A8, C8, rfl, hs⟩ := HS7.out.ret (by decide) hr rfl
                    obtain ⟨n8, hn8⟩ : ∃ n8, n8 = n6 + 32 := ⟨_, rfl⟩
                    rw [← hn8] at hs ⊢
                    have hl8 : n8 ≤ 60000000032 + 1000000100 * j := by omega
                    obtain ⟨E8, hE8⟩ : ∃ E8, E8 = Ej ++ t.key := ⟨_, rfl⟩
                    rw [← hE8] at hs
                    have HE8 := Lib.hid hE8
                    have HS8 := Lib.hid hs
                    clear hn8 hs hr HTx HS7 hE8
                    clear hc2 HR7
                    have hc2 : w8.cell? ⟨X, 74, none⟩ = some (.slice (some ⟨gm, om, none⟩) m Cm) := (HTa.out w8 HS8.out.row).mm
                    have hcd : w8.cell? ⟨gm, om + j * 33 + 32, none⟩ = some (.slice t.A t.n t.C) := (HTC.out w8 HS8.out.bel).data
                    have hcv := conv_rd (HDt.out w8 HS8.out.bel)
                    have hsz : (sb t.l).size ≤ 1000000000 := by rw [sb_size, HTl2.out]; exact htn
                    have hszn : (sb t.l).size = t.n := by rw [sb_size, HTl2.out]
                    have HZn := Lib.hid hszn
                    clear hszn
                    obtain ⟨S8, hS8⟩ : ∃ S8, S8 = sb t.l := ⟨_, rfl⟩
                    rw [← hS8] at hcv hsz HZn
                    have HSv : Hid (bv (be 4 S8.size ++ sv S8) = bv (be 4 t.n ++ t.l)) := Lib.hid (by rw [HZn.out, hS8, sv_sb _ (fun i hi => (HDt.out w8 HS8.out.bel).byte i (by rw [← HTl2.out]; exact hi))])
                    clear hS8
                    have HTx := Lib.hid (rtext4_k w.heap.size (.slice A8 n8 C8) n8 (bv E8) S8 w8 HS8.out.base HS8.out.own (by omega) hsz)
                    go_wp2_with fail
                    refine HTx.out.mono ?_
                    intro e w9 hr
                    obtain ⟨A9, C9, rfl, hs⟩ := HS8.out.pair (by decide) hr (txt_cells 4 S8)
                    obtain ⟨n9, hn9⟩ : ∃ n9, n9 = n8 + 4 + S8.size := ⟨_, rfl⟩
                    rw [← hn9] at hs ⊢
                    have hl9 : n9 ≤ 61000000040 + 1000000100 * j := by omega
                    obtain ⟨E9, hE9⟩ : ∃ E9, E9 = E8 ++ (be 4 S8.size ++ sv S8) := ⟨_, rfl⟩
                    rw [← hE9] at hs
                    have HE9 := Lib.hid hE9
                    have HS9 := Lib.hid hs
                    clear hn9 hs hr HTx HS8 hE9
                    clear hc2 hcd hcv
                    have HS12 : Hid (Bs w w.heap.size X 68 75 DE w9 (.slice A9 n9 C9) n9 (E2 ++ myBs (ys.take (j + 1)))) := Lib.hid (by
                      have h := HS9.out
                      have e : be 4 S8.size ++ sv S8 = be 4 t.n ++ t.l := bv_inj HSv.out
                      rw [HE9.out, HE8.out, HEj.out, e] at h
                      rw [HSt.out]
                      simpa [myB, List.append_assoc] using h)
                    have hl10 : n9 ≤ 60000000000 + 1000000100 * (j + 1) := by omega
                    clear HE8 HE9 HS9 HEj HSv
                    go_wp2_with fail
                    go_roundw
                    case rel => exact ⟨j + 1, n9, A9, C9, rfl, by go_num, by omega, hl10, HS12⟩
                    case measure => simp [intOf]; omega
                  · have ej : j = m := by omega
                    have hd2 : decide ((j : Int) < (m : Int)) = false := by simp; omega
                    have hS : Bs w w.heap.size X 68 75 DE wr (.slice A6 n6 C6) n6 (txB TD) := by
                      have h := HS6.out
                      rw [ej, List.take_of_length_le (by rw [HYl.out]; exact Nat.le_refl _), HE2.out, HE1x.out] at h
                      rw [HTB.out, ← Hf1.out, HMl.out, HYl.out]
                      simpa [List.append_assoc, HH1t.out, HH2t.out] using h
                    have HS0 := Lib.hid hS
                    have hl0 := hS.len
                    clear HS6 hS ej hq
                    go_wp2_with fail
                    refine HPost.out _ _ HS0.out.bel (.inr ⟨HE.out, A6, C6, ?_, ?_⟩)
                    · rw [← hl0] <;> rfl
                    · rw [← hl0]; exact HS0.out.own
end Go.Proofs.Ytmcmapgllaopmaa.Cd
end

section
namespace Go.Proofs.Ytmcmapgllaopmaa.Cd
open Go.RowKit
set_option linter.unusedVariables false
/-- the first byte is set -/
theorem Bs.set0 {w0 : World} {B X : Nat} {t : TypeId} {sz : Nat} {CM : List Value} {wc : World} {g n c : Nat} {x : Int} {E : List Int} (h : Bs w0 B X t sz CM wc (.slice (some ⟨g, 0, none⟩) n c) n (x :: E)) (ht : t ≠ 5) (y : Int) :
    Bs w0 B X t sz CM (wc.setCell ⟨g, 0, none⟩ (.int .u8 y)) (.slice (some ⟨g, 0, none⟩) n c) n (y :: E) := by
  obtain ⟨h1, h2, h3, h4, h5⟩ := own_set0 (y := y) h.own
  exact h.next ht h4 ((Below.refl B wc).setCell (p := ⟨g, 0, none⟩) h3 _) h5
theorem OwnRetK.kept {B n : Nat} {xs : List Value} {w w' : World} {e : Ending} (h : OwnRetK B n xs w e w') : KeptT w w' := by
  obtain ⟨v', -, -, -, hk⟩ := h
  exact hk
theorem sqBs_len {k : Int} {br : ByteArray} {og cu : List Int} {ts : List Td} {dn md : Int} {st : Bool} (ho : og.length = 32) (hc : cu.length = 32) (ht : ∀ t ∈ ts, t.id.length = 32) (hb : br.size ≤ 1000000000) (hn : ts.length ≤ 65535) : (sqBs k br og cu ts dn md st).length ≤ 1100000000 := by
  unfold sqBs
  split
  · simp
  · simp [sqH, sqT, be_length, sv_len, ho, hc, tdBs_len ts ht]
    omega
theorem own_some {w : World} {B n : Nat} {A : Option Addr} {C : Nat} {x : Int} {E : List Int} (h : w.ownsRow B 5 1 (.slice A n C) n (bv (x :: E))) : ∃ g, A = some ⟨g, 0, none⟩ ∧ 0 < n ∧ n ≤ C ∧ C ≤ maxLen := by
  have hl := h.1
  have hn : 0 < n := by simp [bv] at hl; omega
  obtain ⟨g, c, hv, h1, h2⟩ := own_open h hn
  simp only [Value.slice.injEq, true_and] at hv
  obtain ⟨rfl, rfl⟩ := hv
  exact ⟨g, rfl, hn, h1, h2⟩
set_option maxRecDepth 100000 in
set_option maxHeartbeats 8000000 in
theorem encodeTx_any (G : Nat) (hh : Bool) (hd : ByteArray) (A : Option Addr) (n C : Nat) (ms : List Mv) (hs : Bool) (k : Int) (br : ByteArray) (og cu : List Int) (At : Option Addr) (nt Ct : Nat) (ts : List Td) (dn md : Int) (st : Bool) (Am : Option Addr) (m Cm : Nat) (ys : List My) (w : World)
    (ho : IdOk og) (hc : IdOk cu) (hM : RdM G w A n C ms) (hMi : ∀ x ∈ ms, IdOk x.od ∧ IdOk x.nw) (hT : RdT G w At nt Ct ts) (hTi : ∀ t ∈ ts, IdOk t.id) (hY : RdY G w Am m Cm ys) (hYi : ∀ y ∈ ys, IdOk y.key) (hG : G ≤ w.heap.size) (hn : n ≤ 1000000000) (hm : m ≤ 1000000000) (hnt : nt ≤ 1000000000) (hhd : hd.size ≤ 1000000000) (hbr : br.size ≤ 1000000000) :
    Calls Try.prog 29 #[.agg (txV hh hd (.slice A n C) hs (sqV k br og cu (.slice At nt Ct) dn md st) (.slice Am m Cm)).toArray] w (TxRet ⟨hh, hd, ms, hs, ⟨k, br, og, cu, ts, dn, md, st⟩, ys⟩ w) := by
  have hql := sqV_len (k := k) (br := br) (td := Value.slice At nt Ct) (dn := dn) (md := md) (st := st) ho.1 hc.1
  have hxl := txV_len (hh := hh) (hd := hd) (mv := .slice A n C) (hs := hs) (mm := .slice Am m Cm) hql
  have hb1 := (Below.refl w.heap.size w).alloc (Nat.le_refl _) (.cells (txV hh hd (.slice A n C) hs (sqV k br og cu (.slice At nt Ct) dn md st) (.slice Am m Cm)).toArray 68)
  have hr1 := row_newL w (txV hh hd (.slice A n C) hs (sqV k br og cu (.slice At nt Ct) dn md st) (.slice Am m Cm)) 68 75 hxl
  have HAk := Lib.hid (fun W => asked_any hh hd (.slice A n C) hs k br og cu (.slice At nt Ct) dn md st (.slice Am m Cm) W ho.1 hc.1 rfl rfl rfl)
  obtain ⟨k', br', og', cu', At', nt', Ct', ts', dn', md', st', e1, e2, ho', hc', hT', hTi', hnt', hbr'⟩ := ak_form G hs k br og cu At nt Ct ts dn md st w ho hc hT hTi hnt hbr
  rw [e1] at HAk
  have HXr := Lib.hid (row_range hr1 hxl)
  have HX1 := Lib.hid hr1
  have HB1 := Lib.hid hb1
  have hXl := hr1.lt
  have HSz1 : Hid ((Try.prog.info? 68).map (·.size) = some (txV hh hd (.slice A n C) hs (sqV k br og cu (.slice At nt Ct) dn md st) (.slice Am m Cm)).length) := Lib.hid (by rw [hxl]; exact infoTx)
  have hh2s : (akH hh hd).size ≤ 1000000000 := by
    unfold akH
    split
    · exact hhd
    · decide
  generalize hCM0 : txV hh hd (.slice A n C) hs (sqV k br og cu (.slice At nt Ct) dn md st) (.slice Am m Cm) = CM0 at *
  have hql' := sqV_len (k := k') (br := br') (td := Value.slice At' nt' Ct') (dn := dn') (md := md') (st := st') ho'.1 hc'.1
  have HTE : Hid (txE ⟨hh, hd, ms, hs, ⟨k, br, og, cu, ts, dn, md, st⟩, ys⟩ = if 65535 < ms.length ∨ 65535 < ys.length ∨ 65535 < ts'.length then 4 else if lgB ms (akH hh hd) br' = true then 5 else if nfB ts' k' dn' md' = false then 1 else 0) := Lib.hid (by unfold txE; rw [e2])
  have HTB : Hid (txB ⟨hh, hd, ms, hs, ⟨k, br, og, cu, ts, dn, md, st⟩, ys⟩ = fgB hh hs :: ((if hh = true then be 1 (akH hh hd).size ++ sv (akH hh hd) else []) ++ be 2 ms.length ++ mvBs ms ++ (if hs = true then sqBs k' br' og' cu' ts' dn' md' st' else []) ++ be 2 ys.length ++ myBs ys)) := Lib.hid (by
    unfold txB
    rw [e2]
    cases hh
    · rfl
    · rfl)
  have hbr3 := hbr'
  have HIds : Hid (IdOk og' ∧ IdOk cu' ∧ ∀ t ∈ ts', IdOk t.id) := Lib.hid ⟨ho', hc', hTi'⟩
  clear hT hTi ho hc hnt hbr hql e1 e2 hCM0 hb1 hr1 hxl
  generalize hTD : (⟨hh, hd, ms, hs, ⟨k, br, og, cu, ts, dn, md, st⟩, ys⟩ : TxD) = TD at *
  clear hTD
  obtain ⟨h2, hh2⟩ : ∃ h2, h2 = akH hh hd := ⟨_, rfl⟩
  rw [← hh2] at HAk HTE HTB hh2s
  clear hh2 hhd
  have hxl2 := txV_len (hh := hh) (hd := h2) (mv := .slice A n C) (hs := hs) (mm := .slice Am m Cm) hql'
  have hx1 := txV_one (hh := hh) (hd := h2) (mv := .slice A n C) (hs := hs) (mm := .slice Am m Cm) rfl (sqV_one (k := k') (br := br') (og := og') (cu := cu') (td := .slice At' nt' Ct') (dn := dn') (md := md') (st := st') rfl) rfl
  have HTa : Hid (∀ W : World, W.rowIs w.heap.size 68 75 (fun i => (txV hh h2 (.slice A n C) hs (sqV k' br' og' cu' (.slice At' nt' Ct') dn' md' st') (.slice Am m Cm)).getD i undef) → TxAt W w.heap.size hh h2 (.slice A n C) hs (sqV k' br' og' cu' (.slice At' nt' Ct') dn' md' st') (.slice Am m Cm)) := Lib.hid (fun W h => tx_at hql' (row_range h hxl2))
  have HSa : Hid (∀ W : World, W.rangeAt w.heap.size 4 (sqV k' br' og' cu' (.slice At' nt' Ct') dn' md' st') → SqAt W w.heap.size 4 k' br' og' cu' (.slice At' nt' Ct') dn' md' st') := Lib.hid (fun W h => sq_at ho'.1 hc'.1 h)
  have HLg : Hid (∀ W : World, RdM G W A n C ms → RdY G W Am m Cm ys → G ≤ W.heap.size → Calls Try.prog 68 #[.agg (txV hh h2 (.slice A n C) hs (sqV k' br' og' cu' (.slice At' nt' Ct') dn' md' st') (.slice Am m Cm)).toArray] W fun e w' => e = .returned (.bool (lgB ms h2 br')) ∧ Below W.heap.size W w') := Lib.hid (fun W a b c => hasLong_any G hh h2 A n C ms hs k' br' og' cu' (.slice At' nt' Ct') dn' md' st' Am m Cm ys W ho'.1 hc'.1 a b c hn hm (by omega) (by omega))
  have HNf : Hid (∀ W : World, RdT G W At' nt' Ct' ts' → G ≤ W.heap.size → Calls Try.prog 69 #[.agg (sqV k' br' og' cu' (.slice At' nt' Ct') dn' md' st').toArray] W fun e w' => e = .returned (.bool (nfB ts' k' dn' md')) ∧ Below W.heap.size W w') := Lib.hid (fun W a b => numbersFit_any G k' br' og' cu' At' nt' Ct' ts' dn' md' st' W ho'.1 hc'.1 a b hnt')
  have HPs : Hid (∀ (B : Nat) (v : Value) (d : List Int) (W : World), B ≤ W.heap.size → G ≤ B → W.ownsRow B 5 1 v d.length (bv d) → d.length ≤ 100000000000000 → RdT G W At' nt' Ct' ts' → nfB ts' k' dn' md' = true → Calls Try.prog 70 #[v, .agg (sqV k' br' og' cu' (.slice At' nt' Ct') dn' md' st').toArray] W (OwnRetK B (d.length + (sqBs k' br' og' cu' ts' dn' md' st').length) (bv d ++ bv (sqBs k' br' og' cu' ts' dn' md' st')) W)) := Lib.hid (fun B v d W h1 h2 h3 h4 h5 h6 => by
    simp only [nfB, fitB, Bool.and_eq_true, decide_eq_true_eq] at h6
    obtain ⟨q1, q2, q3, q4⟩ := h6
    exact putSeq_k B v d G k' br' og' cu' At' nt' Ct' ts' dn' md' st' W h1 h2 h3 h4 ho' hc' h5 hTi' hnt' hbr' q2.1 q2.2 q1 q3.1 q3.2 q4.1 q4.2)
  obtain ⟨SQ, hSQ⟩ : ∃ SQ, SQ = sqV k' br' og' cu' (.slice At' nt' Ct') dn' md' st' := ⟨_, rfl⟩
  rw [← hSQ] at HAk hql' hxl2 hx1 HTa HSa HLg HNf HPs
  clear hSQ ho' hc' hTi' hbr'
  have HQl := Lib.hid hql'
  have HXl2 := Lib.hid hxl2
  have HX1o := Lib.hid hx1
  have HM := Lib.hid hM
  have HMi := Lib.hid hMi
  have HT := Lib.hid hT'
  have HY := Lib.hid hY
  have HYi := Lib.hid hYi
  have HMl : Hid (ms.length = n) := Lib.hid (by have := hM.rd.len; simpa using this)
  have HYl : Hid (ys.length = m) := Lib.hid (by have := hY.rd.len; simpa using this)
  have HTl : Hid (ts'.length = nt') := Lib.hid (by have := hT'.rd.len; simpa using this)
  have hcap := hM.rd.cap
  have hmax := hM.rd.max
  have hcap2 := hY.rd.cap
  have hmax2 := hY.rd.max
  have hz1 := zeroMv
  have hz2 := zeroMy
  have HZl : Hid ((Mv.cells ⟨ByteArray.empty, List.replicate 32 0, List.replicate 32 0, ByteArray.empty⟩).toArray.size = 66) := Lib.hid (by simp [Mv.cells, bv])
  have HUl : Hid ((My.cells ⟨List.replicate 32 0, none, 0, 0, []⟩).toArray.size = 33) := Lib.hid (by simp [My.cells, bv])
  generalize (Mv.cells ⟨ByteArray.empty, List.replicate 32 0, List.replicate 32 0, ByteArray.empty⟩).toArray = Z at *
  generalize (My.cells ⟨List.replicate 32 0, none, 0, 0, []⟩).toArray = U at *
  clear hM hMi hT' hY hYi hql' hxl2 hx1
  obtain ⟨DE, hDE⟩ : ∃ DE, DE = txV hh h2 (.slice A n C) hs SQ (.slice Am m Cm) := ⟨_, rfl⟩
  rw [← hDE] at HAk HTa HLg HXl2 HX1o
  have HSz2 : Hid ((Try.prog.info? 68).map (·.size) = some DE.length) := Lib.hid (by rw [HXl2.out]; exact infoTx)
  have HSz3 : Hid ((Try.prog.info? 65).map (·.size) = some SQ.length) := Lib.hid (by rw [HQl.out]; exact infoSq)
  clear hDE
  have HPost : Hid (∀ (e : Ending) (w' : World), Below w.heap.size w w' → ((txE TD ≠ 0 ∧ e = .returned (.tuple #[.slice none 0 0, .int .i64 (txE TD)])) ∨ (txE TD = 0 ∧ ∃ A C, e = .returned (.tuple #[.slice A (txB TD).length C, .int .i64 0]) ∧ w'.ownsRow w.heap.size 5 1 (.slice A (txB TD).length C) (txB TD).length (bv (txB TD)))) → TxRet TD w e w') := Lib.hid (fun e w' h1 h2 => ⟨h1, h2⟩)
  generalize hPD : TxRet TD w = PO at *
  clear hPD
  go_enter Try.func29, Try.ntmps29
  go_upto_region 1 with (fail)
  generalize w.alloc (.cells CM0.toArray 68) = wA at *
  obtain ⟨X, hX⟩ : ∃ X, X = w.heap.size := ⟨_, rfl⟩
  rw [← hX] at HXr HX1 HTa HSa hXl ⊢
  have hXw : w.heap.size ≤ X := by omega
  clear hX
  have HAs := Lib.hid (HAk.out wA)
  go_wp2_with (refine wpList_load_mid rfl _ _ rfl X 0 rfl CM0 _ HXr.out Try.underlying68 rfl HSz1.out ?_)
  refine HAs.out.mono ?_
  rintro e w1 ⟨rfl, hb⟩
  have hr1 := World.rowIs.of_block HX1.out (hb.block X hXl)
  have hb1 := HB1.out.trans (hb.mono (show w.heap.size ≤ wA.heap.size from HB1.out.size))
  have HFx := Lib.hid (Fin.mkN infoTx HXl2.out HX1o.out hr1 hb1 hXw)
  have HX2 := Lib.hid (row_of_stored (n := 75) HFx.out.stored HXl2.out)
  have HB2 := Lib.hid HFx.out.bel
  clear hb hr1 hb1 HAs HAk HXr HX1 HB1
  go_upto_region 2 with (refine wpList_store_mid rfl _ _ _ rfl X 0 DE.toArray rfl rfl HFx.out.there HFx.out.size HFx.out.one ?_)
  change Code.wp _ _ _ _ (w1.setCells X 0 DE)
  clear HFx
  generalize w1.setCells X 0 DE = w2 at *
  have HA2 := Lib.hid (HTa.out w2 HX2.out)
  have hc2 : w2.cell? ⟨X, 2, none⟩ = some (.slice A n C) := HA2.out.c2
  have hc74 : w2.cell? ⟨X, 74, none⟩ = some (.slice Am m Cm) := HA2.out.mm
  have hc70 : w2.cell? ⟨X, 70, none⟩ = some (.slice At' nt' Ct') := (HSa.out w2 HA2.out.sq).td
  have hX2l := HX2.out.lt
  have hs2 : w.heap.size ≤ w2.heap.size := HB2.out.size
  by_cases g1 : 65535 < n
  · have hd1 : decide ((65535 : Int) < (n : Int)) = true := by simp; omega
    have HE : Hid (txE TD = 4) := Lib.hid (by rw [HTE.out, if_pos (.inl (by rw [HMl.out]; exact g1))])
    go_wp2_with fail
    exact HPost.out _ _ HB2.out (.inl ⟨by rw [HE.out]; decide, by rw [HE.out]; rfl⟩)
  · have hd1 : decide ((65535 : Int) < (n : Int)) = false := by simp; omega
    by_cases g2 : 65535 < m
    · have hd2 : decide ((65535 : Int) < (m : Int)) = true := by simp; omega
      have HE : Hid (txE TD = 4) := Lib.hid (by rw [HTE.out, if_pos (.inr (.inl (by rw [HYl.out]; exact g2)))])
      go_wp2_with fail
      exact HPost.out _ _ HB2.out (.inl ⟨by rw [HE.out]; decide, by rw [HE.out]; rfl⟩)
    · have hd2 : decide ((65535 : Int) < (m : Int)) = false := by simp; omega
      by_cases g3 : 65535 < nt'
      · have hd3 : decide ((65535 : Int) < (nt' : Int)) = true := by simp; omega
        have HE : Hid (txE TD = 4) := Lib.hid (by rw [HTE.out, if_pos (.inr (.inr (by rw [HTl.out]; exact g3)))])
        go_wp2_with fail
        exact HPost.out _ _ HB2.out (.inl ⟨by rw [HE.out]; decide, by rw [HE.out]; rfl⟩)
      · have hd3 : decide ((65535 : Int) < (nt' : Int)) = false := by simp; omega
        have HTE2 : Hid (txE TD = if lgB ms h2 br' = true then 5 else if nfB ts' k' dn' md' = false then 1 else 0) := Lib.hid (by rw [HTE.out, if_neg (by rw [HMl.out, HYl.out, HTl.out]; omega)])
        have HLc := Lib.hid (HLg.out w2 (HM.out.below HB2.out hG) (HY.out.below HB2.out (Nat.le_refl _) hG) (by omega))
        have HXr2 := Lib.hid (row_range HX2.out HXl2.out)
        clear HTE HLg
        go_upto_region 4 with (fail)
        clear hd1 hd2 hd3 hc2 hc74 hc70
        go_wp2_with (refine wpList_load_mid rfl _ _ rfl X 0 rfl DE _ HXr2.out Try.underlying68 rfl HSz2.out ?_)
        refine HLc.out.mono ?_
        rintro e w3 ⟨rfl, hb⟩
        have HB3 := Lib.hid (HB2.out.trans (hb.mono hs2))
        have HX3 := Lib.hid (World.rowIs.of_block HX2.out (hb.block X hX2l))
        clear hb HLc HXr2 HX2 HA2 HB2 hX2l hs2
        have hX3l := HX3.out.lt
        have hs3 : w.heap.size ≤ w3.heap.size := HB3.out.size
        cases hlg : lgB ms h2 br'
        rotate_left
        · have HE : Hid (txE TD = 5) := Lib.hid (by rw [HTE2.out, hlg]; rfl)
          clear hlg
          go_wp2_with fail
          exact HPost.out _ _ HB3.out (.inl ⟨by rw [HE.out]; decide, by rw [HE.out]; rfl⟩)
        have HTE3 : Hid (txE TD = if nfB ts' k' dn' md' = false then 1 else 0) := Lib.hid (by rw [HTE2.out, hlg]; rfl)
        have HLm : Hid (∀ x ∈ ms, x.nm.size ≤ 255 ∧ x.wy.size ≤ 65535) := Lib.hid (by
          intro x hx
          simp only [lgB, Bool.or_eq_false_iff] at hlg
          have := List.any_eq_false.1 hlg.1 x hx
          simp [mlB] at this
          exact this)
        have HL2 : Hid (h2.size ≤ 255) := Lib.hid (by
          simp only [lgB, Bool.or_eq_false_iff, decide_eq_false_iff_not] at hlg
          omega)
        clear hlg HTE2
        have HS4 := Lib.hid ((HTa.out w3 HX3.out).sq)
        have HNc := Lib.hid (HNf.out w3 (HT.out.below HB3.out hG) (by omega))
        go_wp2_with (refine wpList_load_mid rfl _ _ rfl X 4 rfl SQ _ HS4.out Try.underlying65 rfl HSz3.out ?_)
        refine HNc.out.mono ?_
        rintro e w4 ⟨rfl, hb⟩
        have HB4 := Lib.hid (HB3.out.trans (hb.mono hs3))
        have HX4 := Lib.hid (World.rowIs.of_block HX3.out (hb.block X hX3l))
        have hs4 : w.heap.size ≤ w4.heap.size := HB4.out.size
        clear hb HNc HS4 HX3 HB3 hX3l hs3 HNf
        cases hnf : nfB ts' k' dn' md'
        · have HE : Hid (txE TD = 1) := Lib.hid (by rw [HTE3.out, hnf]; rfl)
          clear hnf
          go_wp2_with fail
          exact HPost.out _ _ HB4.out (.inl ⟨by rw [HE.out]; decide, by rw [HE.out]; rfl⟩)
        have HE : Hid (txE TD = 0) := Lib.hid (by rw [HTE3.out, hnf]; rfl)
        have HNf := Lib.hid hnf
        clear hnf HTE3
        have hb5 := HB4.out.alloc hs4 (.cells #[.int .u8 0] 5)
        have HS0 : Hid (Bs w w.heap.size X 68 75 DE (w4.alloc (.cells #[.int .u8 0] 5)) (.slice (some ⟨w4.heap.size, 0, none⟩) 1 1) 1 [0]) := Lib.hid ⟨own_base (own_lit w4 [0] (by unfold maxLen; simp)) hs4, HX4.out.alloc _, hb5, KeptT.of_below hb5, Nat.le_refl _⟩
        clear hb5 HX4 HB4 hs4
        go_upto_region 9 with (fail)
        change Code.wp _ _ _ _ (w4.alloc (.cells #[.int .u8 0] 5))
        generalize w4.alloc (.cells #[.int .u8 0] 5) = w5 at *
        generalize w4.heap.size = g5 at *
        have hc0 : w5.cell? ⟨X, 0, none⟩ = some (.bool hh) := (HTa.out w5 HS0.out.row).c0
        obtain ⟨f0, hf0⟩ : ∃ f0 : Int, f0 = (if hh = true then 1 else 0) := ⟨_, rfl⟩
        obtain ⟨H1, hH1⟩ : ∃ H1 : List Int, H1 = (if hh = true then be 1 h2.size ++ sv h2 else []) := ⟨_, rfl⟩
        have Hf0 := Lib.hid hf0
        have HH1 := Lib.hid hH1
        have HH1t := Lib.hid hH1
        clear hf0 hH1
        go_upto_if 39 with (fail)
        clear hc0
        go_cut [4] (fun s4 wx => ∃ (A1 : Option Addr) (n1 C1 : Nat), s4 = .slice A1 n1 C1 ∧ n1 ≤ 300 ∧ Hid (Bs w w.heap.size X 68 75 DE wx (.slice A1 n1 C1) n1 (f0 :: H1)))
        case first =>
          cases hh
          · go_wp2_with fail
            go_meet
            refine ⟨_, 1, 1, rfl, by omega, ?_⟩
            rw [Hf0.out, HH1.out]
            exact HS0
          · have hw0 := own_set0 (y := 1) HS0.out.own
            have hcc : w5.cell? ⟨g5, 0, none⟩ = some (.int .u8 0) := hw0.1
            have hff : w5.frozen? ⟨g5, 0, none⟩ = false := hw0.2.1
            have hor : bits .or .u8 0 1 = 1 := by decide
            have HS1 := Lib.hid (HS0.out.set0 (by decide) 1)
            clear HS0 hw0
            go_upto_region 11 with (fail)
            change Code.wp _ _ _ _ (w5.setCell ⟨g5, 0, none⟩ (.int .u8 1))
            clear hcc hff hor
            generalize w5.setCell ⟨g5, 0, none⟩ (.int .u8 1) = w6 at *
            have hc1 : w6.cell? ⟨X, 1, none⟩ = some (.string h2) := (HTa.out w6 HS1.out.row).c1
            have hL2 := HL2.out
            have HTx := Lib.hid (text_k w.heap.size (.slice (some ⟨g5, 0, none⟩) 1 1) 1 (bv [1]) h2 1 w6 HS1.out.base HS1.out.own (by omega) (by have := HL2.out; omega) (by omega))
            go_wp2_with fail
            refine HTx.out.mono ?_
            intro e w2 hr
            obtain ⟨A2, C2, rfl, hs⟩ := HS1.out.ret (by decide) hr (txt_cells 1 h2)
            obtain ⟨n2, hn2⟩ : ∃ n2, n2 = 1 + 1 + h2.size := ⟨_, rfl⟩
            rw [← hn2] at hs ⊢
            have hl2 : n2 ≤ 264 := by omega
            obtain ⟨E2, hE2⟩ : ∃ E2, E2 = [1] ++ (be 1 h2.size ++ sv h2) := ⟨_, rfl⟩
            rw [← hE2] at hs
            have HE2 := Lib.hid hE2
            have HS2 := Lib.hid hs
            clear hn2 hs hr HTx HS1 hE2
            clear hc1
            have hl2' : n2 ≤ 300 := by have := HL2.out; have := HS2.out.len; rw [HE2.out] at this; simp [be_length, sv_len] at this; omega
            go_wp2_with fail
            go_meet
            refine ⟨A2, n2, C2, rfl, hl2', ?_⟩
            rw [Hf0.out, HH1.out]
            simp only [if_true]
            have h := HS2.out
            rw [HE2.out] at h
            exact Lib.hid h
        case rest =>
          obtain ⟨A1, n1, C1, rfl, hl1, HS1⟩ := hcut
          clear HS0
          obtain ⟨E1, hE1⟩ : ∃ E1, E1 = f0 :: H1 := ⟨_, rfl⟩
          rw [← hE1] at HS1
          have HE1 := Lib.hid hE1
          clear hE1
          have hc2 : wc.cell? ⟨X, 2, none⟩ = some (.slice A n C) := (HTa.out wc HS1.out.row).c2
          have HTx := Lib.hid (number_k w.heap.size (.slice A1 n1 C1) n1 (bv E1) (n : Int) 2 wc HS1.out.base HS1.out.own (by omega) (by omega) (by omega) (by omega))
          go_wp2_with fail
          refine HTx.out.mono ?_
          intro e w2 hr
          obtain ⟨A2, C2, rfl, hs⟩ := HS1.out.ret (by decide) hr rfl
          obtain ⟨n2, hn2⟩ : ∃ n2, n2 = n1 + 2 := ⟨_, rfl⟩
          rw [← hn2] at hs ⊢
          have hl2 : n2 ≤ 302 := by omega
          obtain ⟨E2, hE2⟩ : ∃ E2, E2 = E1 ++ be 2 (n : Int) := ⟨_, rfl⟩
          rw [← hE2] at hs
          have HE2 := Lib.hid hE2
          have HS2 := Lib.hid hs
          clear hn2 hs hr HTx HS1 hE2
          clear hc2
          have hc2 : w2.cell? ⟨X, 2, none⟩ = some (.slice A n C) := (HTa.out w2 HS2.out.row).c2
          go_wp2_with fail
          clear hc2
          go_loopw [4, 58] (fun b i wr => ∃ (j q : Nat) (Ar : Option Addr) (Cr : Nat), b = .slice Ar q Cr ∧ i = .int .i64 j ∧ j ≤ n ∧ q ≤ 302 + 70000 * j ∧ Hid (Bs w w.heap.size X 68 75 DE wr (.slice Ar q Cr) q (E2 ++ mvBs (ms.take j)))) (fun _ i _ => n - (intOf i).toNat)
          case atStart => exact ⟨0, n2, A2, C2, rfl, rfl, Nat.zero_le _, by omega, Lib.hid (by rw [List.take_zero, show mvBs [] = [] from rfl, List.append_nil]; exact HS2.out)⟩
          case round =>
            clear HS2
            obtain ⟨j, n6, A6, C6, rfl, rfl, hj, hq, HS6⟩ := hrel
            by_cases hlt : j < n
            · have hTr := HM.out.below HS6.out.bel hG
              obtain ⟨gm, om, rfl, hgl, hcc⟩ := hTr.rd.cell (by omega)
              obtain ⟨t, ht⟩ : ∃ t, t = ms.getD j default := ⟨_, rfl⟩
              have hrg := hcc j hlt
              rw [map_getD _ (by rw [HMl.out]; exact hlt), ← ht] at hrg
              have htm : t ∈ ms := by rw [ht]; exact getD_memI (by rw [HMl.out]; exact hlt)
              have hti := HMi.out t htm
              have htz := HLm.out t htm
              have htl := Mv.len hti.1.1 hti.2.1
              have hz3 := htz.1
              have hz4 := htz.2
              have HRg := Lib.hid hrg
              have HTs : Hid ((Try.prog.info? 126).map (·.size) = some t.cells.length) := Lib.hid (by rw [htl]; exact infoMv)
              obtain ⟨hf, hrn⟩ := lay_new wr 126 66 Z t.cells infoMv HZl.out htl t.one
              have HIo := Lib.hid hti.1
              have HIw := Lib.hid hti.2
              have HF2 := Lib.hid hf
              have HY7 := Lib.hid (row_of_stored (n := 66) hf.stored htl)
              have HTC : Hid (∀ W : World, W.rowIs wr.heap.size 126 66 (fun i => t.cells.getD i undef) → MvAt W wr.heap.size t) := Lib.hid (fun W h => mv_at hti.1.1 hti.2.1 (row_range h htl))
              obtain ⟨Ej, hEj⟩ : ∃ Ej, Ej = E2 ++ mvBs (ms.take j) := ⟨_, rfl⟩
              have hs7 := HS6.out.keep hf.bel
              rw [← hEj] at hs7
              have HS7 := Lib.hid hs7
              have HEj := Lib.hid hEj
              have hst := mvBs_take ms j (by rw [HMl.out]; exact hlt)
              rw [← ht] at hst
              have HSt := Lib.hid hst
              have hj0 : (0 : Int) ≤ (j : Int) := by omega
              have hj1 : (j : Int) < (n : Int) := by omega
              clear hTr hcc hrg htl hf hrn hst ht htm hti htz HS6 hs7 hEj
              generalize t.cells = TC at *
              go_upto_region 16 with (first
                | (refine wpList_load_mid rfl _ _ rfl gm (om + j * 66) rfl TC _ HRg.out Try.underlying126 rfl HTs.out ?_)
                | (refine wpList_store_mid rfl _ _ _ rfl wr.heap.size 0 TC.toArray rfl rfl HF2.out.there HF2.out.size HF2.out.one ?_))
              change Code.wp _ _ _ _ ((wr.alloc (.cells Z 126)).setCells wr.heap.size 0 TC)
              clear HF2 HRg HTs
              generalize (wr.alloc (.cells Z 126)).setCells wr.heap.size 0 TC = w7 at *
              generalize wr.heap.size = Y at *
              have hcn : w7.cell? ⟨Y, 0, none⟩ = some (.string t.nm) := (HTC.out w7 HY7.out).nm
              have HTx := Lib.hid (text_k w.heap.size (.slice A6 n6 C6) n6 (bv Ej) t.nm 1 w7 HS7.out.base HS7.out.own (by omega) (by omega) (by omega))
              go_wp2_with fail
              refine HTx.out.mono ?_
              intro e w8 hr
              obtain ⟨A8, C8, rfl, hs⟩ := HS7.out.ret (by decide) hr (txt_cells 1 t.nm)
              obtain ⟨n8, hn8⟩ : ∃ n8, n8 = n6 + 1 + t.nm.size := ⟨_, rfl⟩
              rw [← hn8] at hs ⊢
              have hl8 : n8 ≤ 565 + 70000 * j := by omega
              obtain ⟨E8, hE8⟩ : ∃ E8, E8 = Ej ++ (be 1 t.nm.size ++ sv t.nm) := ⟨_, rfl⟩
              rw [← hE8] at hs
              have HE8 := Lib.hid hE8
              have HS8 := Lib.hid hs
              have HY8 := Lib.hid (OwnRetK.kept hr |>.row HY7.out (by decide))
              clear hn8 hs hr HTx HS7 hE8
              clear hcn HY7
              have HRl := Lib.hid (RdB.of_range (n := 32) (HTC.out _ HY8.out).od HIo.out.1 HY8.out.lt (by omega) HIo.out.2)
              go_wp2_with (refine wpList_append_k _ rfl _ _ rfl w.heap.size (.slice A8 n8 C8) n8 _ rfl HS8.out.own (some ⟨Y, 1, none⟩) 32 32 t.od rfl HRl.out (by omega) HS8.out.base ?_)
              intro A9 C9 w9 ho hb hk
              obtain ⟨n9, hn9⟩ : ∃ n9, n9 = n8 + 32 := ⟨_, rfl⟩
              rw [← hn9] at ho ⊢
              have hl9 : n9 ≤ 597 + 70000 * j := by omega
              obtain ⟨E9, hE9⟩ : ∃ E9, E9 = E8 ++ t.od := ⟨_, rfl⟩
              rw [← hE9] at ho
              have HE9 := Lib.hid hE9
              have HS9 := Lib.hid (HS8.out.next (by decide) ho hb hk)
              have HY9 := Lib.hid (hk.row HY8.out (by decide))
              clear hn9 ho hb hk HRl HS8 hE9
              clear HY8
              have HRl := Lib.hid (RdB.of_range (n := 32) (HTC.out _ HY9.out).nw HIw.out.1 HY9.out.lt (by omega) HIw.out.2)
              go_wp2_with (refine wpList_append_k _ rfl _ _ rfl w.heap.size (.slice A9 n9 C9) n9 _ rfl HS9.out.own (some ⟨Y, 33, none⟩) 32 32 t.nw rfl HRl.out (by omega) HS9.out.base ?_)
              intro A10 C10 w10 ho hb hk
              obtain ⟨n10, hn10⟩ : ∃ n10, n10 = n9 + 32 := ⟨_, rfl⟩
              rw [← hn10] at ho ⊢
              have hl10 : n10 ≤ 629 + 70000 * j := by omega
              obtain ⟨E10, hE10⟩ : ∃ E10, E10 = E9 ++ t.nw := ⟨_, rfl⟩
              rw [← hE10] at ho
              have HE10 := Lib.hid hE10
              have HS10 := Lib.hid (HS9.out.next (by decide) ho hb hk)
              have HY10 := Lib.hid (hk.row HY9.out (by decide))
              clear hn10 ho hb hk HRl HS9 hE10
              clear HY9
              have hcn : w10.cell? ⟨Y, 65, none⟩ = some (.string t.wy) := (HTC.out w10 HY10.out).wy
              have HTx := Lib.hid (text_k w.heap.size (.slice A10 n10 C10) n10 (bv E10) t.wy 2 w10 HS10.out.base HS10.out.own (by omega) (by omega) (by omega))
              go_wp2_with fail
              refine HTx.out.mono ?_
              intro e w11 hr
              obtain ⟨A11, C11, rfl, hs⟩ := HS10.out.ret (by decide) hr (txt_cells 2 t.wy)
              obtain ⟨n11, hn11⟩ : ∃ n11, n11 = n10 + 2 + t.wy.size := ⟨_, rfl⟩
              rw [← hn11] at hs ⊢
              have hl11 : n11 ≤ 66172 + 70000 * j := by omega
              obtain ⟨E11, hE11⟩ : ∃ E11, E11 = E10 ++ (be 2 t.wy.size ++ sv t.wy) := ⟨_, rfl⟩
              rw [← hE11] at hs
              have HE11 := Lib.hid hE11
              have HS11 := Lib.hid hs
              clear hn11 hs hr HTx HS10 hE11
              clear hcn HY10
              have HS12 : Hid (Bs w w.heap.size X 68 75 DE w11 (.slice A11 n11 C11) n11 (E2 ++ mvBs (ms.take (j + 1)))) := Lib.hid (by
                have h := HS11.out
                rw [HE11.out, HE10.out, HE9.out, HE8.out, HEj.out] at h
                rw [HSt.out]
                simpa [mvB, List.append_assoc] using h)
              clear HE8 HE9 HE10 HE11 HS11 HEj
              go_wp2_with fail
              go_roundw
              case rel => exact ⟨j + 1, n11, A11, C11, rfl, by go_num, by omega, by omega, HS12⟩
              case measure => simp [intOf]; omega
            · have ej : j = n := by omega
              have hd2 : decide ((j : Int) < (n : Int)) = false := by simp; omega
              have hS : Bs w w.heap.size X 68 75 DE wr (.slice A6 n6 C6) n6 (f0 :: (H1 ++ be 2 (n : Int) ++ mvBs ms)) := by
                have h := HS6.out
                rw [ej, List.take_of_length_le (by rw [HMl.out]; exact Nat.le_refl _), HE2.out, HE1.out] at h
                simpa [List.append_assoc] using h
              have HS0 := Lib.hid hS
              have hl6 : n6 ≤ 302 + 70000 * n := by omega
              clear HS6 hS ej hq
              have hc3 : wr.cell? ⟨X, 3, none⟩ = some (.bool hs) := (HTa.out wr HS0.out.row).c3
              obtain ⟨H2, hH2⟩ : ∃ H2 : List Int, H2 = (if hs = true then sqBs k' br' og' cu' ts' dn' md' st' else []) := ⟨_, rfl⟩
              have HH2 := Lib.hid hH2
              have HH2t := Lib.hid hH2
              obtain ⟨f1, hf1⟩ : ∃ f1 : Int, f1 = fgB hh hs := ⟨_, rfl⟩
              have Hf1 := Lib.hid hf1
              have HSQl : Hid ((sqBs k' br' og' cu' ts' dn' md' st').length ≤ 1100000000) := Lib.hid (sqBs_len HIds.out.1.1 HIds.out.2.1.1 (fun t ht => (HIds.out.2.2 t ht).1) hbr3 (by rw [HTl.out]; omega))
              clear hH2 hf1
              go_upto_if 80 with (fail)
              clear hc3
              go_cut [4] (fun s4 wx => ∃ (A1 : Option Addr) (n1 C1 : Nat), s4 = .slice A1 n1 C1 ∧ n1 ≤ 1100000302 + 70000 * n ∧ Hid (Bs w w.heap.size X 68 75 DE wx (.slice A1 n1 C1) n1 (f1 :: (H1 ++ be 2 (n : Int) ++ mvBs ms ++ H2))))
              case first =>
                cases hs
                · go_wp2_with fail
                  go_meet
                  refine ⟨A6, n6, C6, rfl, by omega, ?_⟩
                  rw [Hf1.out, HH2.out, if_neg (by decide), List.append_nil, show fgB hh false = f0 by rw [Hf0.out]; simp [fgB]]
                  exact HS0
                · obtain ⟨g6, rfl, hp6, hpc, hpm⟩ := own_some HS0.out.own
                  have hw0 := own_set0 (y := f1) HS0.out.own
                  have hcc : wr.cell? ⟨g6, 0, none⟩ = some (.int .u8 f0) := hw0.1
                  have hff : wr.frozen? ⟨g6, 0, none⟩ = false := hw0.2.1
                  have hor : bits .or .u8 f0 2 = f1 := by rw [Hf0.out, Hf1.out]; cases hh <;> decide
                  have HS1 := Lib.hid (HS0.out.set0 (by decide) f1)
                  have hi0 : (0 : Int) < (n6 : Int) := by omega
                  clear HS0 hw0
                  go_upto_region 23 with (fail)
                  change Code.wp _ _ _ _ (wr.setCell ⟨g6, 0, none⟩ (.int .u8 f1))
                  clear hcc hff hor
                  generalize wr.setCell ⟨g6, 0, none⟩ (.int .u8 f1) = w6 at *
                  obtain ⟨E6, hE6⟩ : ∃ E6, E6 = f1 :: (H1 ++ be 2 (n : Int) ++ mvBs ms) := ⟨_, rfl⟩
                  rw [← hE6] at HS1
                  have HE6 := Lib.hid hE6
                  clear hE6
                  have hl6 := HS1.out.len
                  have HRq := Lib.hid (HTa.out w6 HS1.out.row).sq
                  have HPc := Lib.hid (HPs.out w.heap.size (.slice (some ⟨g6, 0, none⟩) n6 C6) E6 w6 HS1.out.base hG (by rw [← hl6]; exact HS1.out.own) (by omega) (HT.out.below HS1.out.bel hG) HNf.out)
                  clear hl6
                  go_wp2_with (refine wpList_load_mid rfl _ _ rfl X 4 rfl SQ _ HRq.out Try.underlying65 rfl HSz3.out ?_)
                  refine HPc.out.mono ?_
                  intro e w7 hr
                  obtain ⟨A7, C7, rfl, hs⟩ := HS1.out.ret (by decide) hr rfl
                  have hl7 := hs.len
                  have hq7 : (E6 ++ sqBs k' br' og' cu' ts' dn' md' st').length ≤ 1100000302 + 70000 * n := by
                    have h1 := HSQl.out
                    have h2 := HS1.out.len
                    rw [List.length_append]
                    omega
                  rw [hl7] at hs ⊢
                  rw [hl7] at hr
                  have HS7 := Lib.hid hs
                  clear hs hr HPc HRq hl7
                  generalize (E6 ++ sqBs k' br' og' cu' ts' dn' md' st').length = n7 at *
                  go_wp2_with fail
                  go_meet
                  refine ⟨A7, n7, C7, rfl, hq7, ?_⟩
                  have h := HS7.out
                  rw [HE6.out] at h
                  rw [HH2.out]
                  simp only [if_true]
                  exact Lib.hid (by simpa [List.append_assoc] using h)
              case rest =>
                obtain ⟨A1, n1, C1, rfl, hl1, HS1⟩ := hcut
                clear HS0 HH1 Hf0 HH2 HSQl HPs hl6
                obtain ⟨E1, hE1⟩ : ∃ E1, E1 = f1 :: (H1 ++ be 2 (n : Int) ++ mvBs ms ++ H2) := ⟨_, rfl⟩
                rw [← hE1] at HS1
                have HE1x := Lib.hid hE1
                clear hE1
                have hc2 : wc.cell? ⟨X, 74, none⟩ = some (.slice Am m Cm) := (HTa.out wc HS1.out.row).mm
                have HTx := Lib.hid (number_k w.heap.size (.slice A1 n1 C1) n1 (bv E1) (m : Int) 2 wc HS1.out.base HS1.out.own (by omega) (by omega) (by omega) (by omega))
                go_wp2_with fail
                refine HTx.out.mono ?_
                intro e w2 hr
                obtain ⟨A2, C2, rfl, hs⟩ := HS1.out.ret (by decide) hr rfl
                obtain ⟨n2, hn2⟩ : ∃ n2, n2 = n1 + 2 := ⟨_, rfl⟩
                rw [← hn2] at hs ⊢
                have hl2 : n2 ≤ 1100000304 + 70000 * n := by omega
                obtain ⟨E2, hE2⟩ : ∃ E2, E2 = E1 ++ be 2 (m : Int) := ⟨_, rfl⟩
                rw [← hE2] at hs
                have HE2 := Lib.hid hE2
                have HS2 := Lib.hid hs
                clear hn2 hs hr HTx HS1 hE2
                clear hc2
                have hc2 : w2.cell? ⟨X, 74, none⟩ = some (.slice Am m Cm) := (HTa.out w2 HS2.out.row).mm
                go_wp2_with fail
                clear hc2
                go_loopw [4, 99] (fun b i wr => ∃ (j q : Nat) (Ar : Option Addr) (Cr : Nat), b = .slice Ar q Cr ∧ i = .int .i64 j ∧ j ≤ m ∧ q ≤ 6000000000 + 1000000100 * j ∧ Hid (Bs w w.heap.size X 68 75 DE wr (.slice Ar q Cr) q (E2 ++ myBs (ys.take j)))) (fun _ i _ => m - (intOf i).toNat)
                case atStart => exact ⟨0, n2, A2, C2, rfl, rfl, Nat.zero_le _, by omega, Lib.hid (by rw [List.take_zero, show myBs [] = [] from rfl, List.append_nil]; exact HS2.out)⟩
                case round =>
                  clear HS2
                  obtain ⟨j, n6, A6, C6, rfl, rfl, hj, hq, HS6⟩ := hrel
                  by_cases hlt : j < m
                  · have hTr := HY.out.below HS6.out.bel (Nat.le_refl _) hG
                    obtain ⟨gm, om, rfl, hgl, hcc⟩ := hTr.rd.cell (by omega)
                    obtain ⟨t, ht⟩ : ∃ t, t = ys.getD j default := ⟨_, rfl⟩
                    have hrg := hcc j hlt
                    rw [map_getD _ (by rw [HYl.out]; exact hlt), ← ht] at hrg
                    have htm : t ∈ ys := by rw [ht]; exact getD_memI (by rw [HYl.out]; exact hlt)
                    have hti := HYi.out t htm
                    have htl := My.len hti.1
                    have htn := (hTr.ok t htm).2.1
                    have HRg := Lib.hid hrg
                    have HDt : Hid (∀ W : World, Below w.heap.size w W → RdB W t.A t.n t.C t.l) := Lib.hid (fun W hb => ((HY.out.below hb (Nat.le_refl _) hG).ok t htm).2.2.rd)
                    have HTs : Hid ((Try.prog.info? 128).map (·.size) = some t.cells.length) := Lib.hid (by rw [htl]; exact infoMy)
                    obtain ⟨hf, hrn⟩ := lay_new wr 128 33 U t.cells infoMy HUl.out htl t.one
                    have HIk := Lib.hid hti
                    have HF2 := Lib.hid hf
                    have HY7 := Lib.hid (row_of_stored (n := 33) hf.stored htl)
                    have HTC : Hid (∀ W : World, W.rowIs wr.heap.size 128 33 (fun i => t.cells.getD i undef) → MyAt W wr.heap.size t) := Lib.hid (fun W h => my_at hti.1 (row_range h htl))
                    obtain ⟨Ej, hEj⟩ : ∃ Ej, Ej = E2 ++ myBs (ys.take j) := ⟨_, rfl⟩
                    have hs7 := HS6.out.keep hf.bel
                    rw [← hEj] at hs7
                    have HS7 := Lib.hid hs7
                    have HEj := Lib.hid hEj
                    have hst := myBs_take ys j (by rw [HYl.out]; exact hlt)
                    rw [← ht] at hst
                    have HSt := Lib.hid hst
                    have hj0 : (0 : Int) ≤ (j : Int) := by omega
                    have hj1 : (j : Int) < (m : Int) := by omega
                    clear hTr hcc hrg htl hf hrn hst ht htm hti HS6 hs7 hEj
                    generalize t.cells = TC at *
                    go_upto_region 28 with (first
                      | (refine wpList_load_mid rfl _ _ rfl gm (om + j * 33) rfl TC _ HRg.out Try.underlying128 rfl HTs.out ?_)
                      | (refine wpList_store_mid rfl _ _ _ rfl wr.heap.size 0 TC.toArray rfl rfl HF2.out.there HF2.out.size HF2.out.one ?_))
                    change Code.wp _ _ _ _ ((wr.alloc (.cells U 128)).setCells wr.heap.size 0 TC)
                    clear HF2 HRg HTs
                    generalize (wr.alloc (.cells U 128)).setCells wr.heap.size 0 TC = w7 at *
                    generalize wr.heap.size = Y at *
                    have HRl := Lib.hid (RdB.of_range (n := 32) (HTC.out _ HY7.out).key HIk.out.1 HY7.out.lt (by omega) HIk.out.2)
                    go_wp2_with (refine wpList_append_k _ rfl _ _ rfl w.heap.size (.slice A6 n6 C6) n6 _ rfl HS7.out.own (some ⟨Y, 0, none⟩) 32 32 t.key rfl HRl.out (by omega) HS7.out.base ?_)
                    intro A8 C8 w8 ho hb hk
                    obtain ⟨n8, hn8⟩ : ∃ n8, n8 = n6 + 32 := ⟨_, rfl⟩
                    rw [← hn8] at ho ⊢
                    have hl8 : n8 ≤ 6000000032 + 1000000100 * j := by omega
                    obtain ⟨E8, hE8⟩ : ∃ E8, E8 = Ej ++ t.key := ⟨_, rfl⟩
                    rw [← hE8] at ho
                    have HE8 := Lib.hid hE8
                    have HS8 := Lib.hid (HS7.out.next (by decide) ho hb hk)
                    have HY8 := Lib.hid (hk.row HY7.out (by decide))
                    clear hn8 ho hb hk HRl HS7 hE8
                    clear HY7
                    obtain ⟨yA, hyA⟩ : ∃ yA, yA = t.A := ⟨_, rfl⟩
                    obtain ⟨yn, hyn⟩ : ∃ yn, yn = t.n := ⟨_, rfl⟩
                    obtain ⟨yC, hyC⟩ : ∃ yC, yC = t.C := ⟨_, rfl⟩
                    obtain ⟨yl, hyl⟩ : ∃ yl, yl = t.l := ⟨_, rfl⟩
                    obtain ⟨yk, hyk⟩ : ∃ yk, yk = t.key := ⟨_, rfl⟩
                    have HCy : Hid (∀ W : World, W.rowIs Y 128 33 (fun i => TC.getD i undef) → W.cell? ⟨Y, 32, none⟩ = some (.slice yA yn yC)) := Lib.hid (by rw [hyA, hyn, hyC]; exact fun W h => (HTC.out W h).data)
                    have hmb : myB t = yk ++ be 4 yn ++ yl := by rw [hyk, hyn, hyl]; rfl
                    rw [hmb] at HSt
                    rw [← hyk] at HE8
                    rw [← hyA, ← hyn, ← hyC, ← hyl] at HDt
                    rw [← hyn] at htn
                    clear hyA hyn hyC hyl hyk hmb HTC
                    go_wp2_with fail
                    have dS := Lib.hid HS8.out.drew
                    have dY := Lib.hid (World.rowIs.drew HY8.out)
                    have dC : Hid (w8.drew.cell? ⟨Y, 32, none⟩ = some (.slice yA yn yC)) := Lib.hid (HCy.out _ dY.out)
                    clear HS8 HY8
                    have hwn : IntKind.u64.wrap (yn : Int) = (yn : Int) := by rw [IntKind.wrap_u64]; omega
                    refine wp_region_noPanic ?_
                    refine wp_region_held_drew (S := (fun wS => wS.cell? ⟨Y, 32, none⟩ = some (.slice yA yn yC))) (by kernel_rfl) ?_ (fun hHeld => ?_)
                    · ((try dsimp only); exact dC.out)
                    refine wpAnyH_take (i := 0) (oi := { dst := some 107, op := Op.move (Operand.tmp 4), type := 23, pos := "tx.go:49", after := #[], guard := none }) (v := ?_) rfl (by kernel_rfl) (by kernel_rfl) (by kernel_rfl) (fun _ _ _ h => h) (Or.inl ⟨by rfl, ?_⟩) (by assumption) ?_
                    rotate_left 1
                    · ((intro w hSw; (try dsimp only at hSw); go_simp) <;> with_reducible rfl)
                    (try simp only [Act.put, List.setIfInBounds_toArray, List.set_cons_zero, List.set_cons_succ])
                    refine wpAnyH_take (i := 1) (oi := { dst := some 108, op := Op.fieldAddr 128 (Operand.tmp 8) 1, type := 0, pos := "tx.go:49", after := #[], guard := none }) (v := ?_) rfl (by kernel_rfl) (by kernel_rfl) (by kernel_rfl) (fun _ _ _ h => h) (Or.inl ⟨by rfl, ?_⟩) (by assumption) ?_
                    rotate_left 1
                    · ((intro w hSw; (try dsimp only at hSw); go_simp) <;> with_reducible rfl)
                    (try simp only [Act.put, List.setIfInBounds_toArray, List.set_cons_zero, List.set_cons_succ])
                    refine wpAnyH_take (i := 2) (oi := { dst := some 109, op := Op.load 23 (Operand.tmp 108), type := 23, pos := "tx.go:49", after := #[{ on := 1, ground := Ground.data }], guard := none }) (v := ?_) rfl (by kernel_rfl) (by kernel_rfl) (by kernel_rfl) (fun _ _ _ h => h) (Or.inl ⟨by rfl, ?_⟩) (by assumption) ?_
                    rotate_left 1
                    · ((intro w hSw; (try dsimp only at hSw); go_simp) <;> with_reducible rfl)
                    (try simp only [Act.put, List.setIfInBounds_toArray, List.set_cons_zero, List.set_cons_succ])
                    refine wpAnyH_take (i := 3) (oi := { dst := some 110, op := Op.call { callee := Callee.builtin Builtin.len, args := #[Operand.tmp 109], argTypes := #[23] }, type := 3, pos := "tx.go:49", after := #[{ on := 2, ground := Ground.data }], guard := none }) (v := ?_) rfl (by kernel_rfl) (by kernel_rfl) (by kernel_rfl) (fun _ _ _ h => h) (Or.inl ⟨by rfl, ?_⟩) (by assumption) ?_
                    rotate_left 1
                    · ((intro w hSw; (try dsimp only at hSw); go_simp) <;> with_reducible rfl)
                    (try simp only [Act.put, List.setIfInBounds_toArray, List.set_cons_zero, List.set_cons_succ])
                    refine wpAnyH_take (i := 4) (oi := { dst := some 111, op := Op.convert 3 105 (Operand.tmp 110), type := 105, pos := "tx.go:49", after := #[{ on := 3, ground := Ground.data }], guard := none }) (v := ?_) rfl (by kernel_rfl) (by kernel_rfl) (by kernel_rfl) (fun _ _ _ h => h) (Or.inl ⟨by rfl, ?_⟩) (by assumption) ?_
                    rotate_left 1
                    · ((intro w hSw; (try dsimp only at hSw); go_simp) <;> with_reducible rfl)
                    (try simp only [Act.put, List.setIfInBounds_toArray, List.set_cons_zero, List.set_cons_succ])
                    refine wpAnyH_take (i := 6) (oi := { dst := some 113, op := Op.fieldAddr 128 (Operand.tmp 8) 1, type := 0, pos := "tx.go:49", after := #[], guard := none }) (v := ?_) rfl (by kernel_rfl) (by kernel_rfl) (by kernel_rfl) (fun _ _ _ h => h) (Or.inl ⟨by rfl, ?_⟩) (by assumption) ?_
                    rotate_left 1
                    · ((intro w hSw; (try dsimp only at hSw); go_simp) <;> with_reducible rfl)
                    (try simp only [Act.put, List.setIfInBounds_toArray, List.set_cons_zero, List.set_cons_succ])
                    refine wpAnyH_take (i := 7) (oi := { dst := some 114, op := Op.load 23 (Operand.tmp 113), type := 23, pos := "tx.go:49", after := #[{ on := 6, ground := Ground.data }], guard := none }) (v := ?_) rfl (by kernel_rfl) (by kernel_rfl) (by kernel_rfl) (fun _ _ _ h => h) (Or.inl ⟨by rfl, ?_⟩) (by assumption) ?_
                    rotate_left 1
                    · ((intro w hSw; (try dsimp only at hSw); go_simp) <;> with_reducible rfl)
                    (try simp only [Act.put, List.setIfInBounds_toArray, List.set_cons_zero, List.set_cons_succ])
                    refine wpAnyH_ready (rs := [5]) (by kernel_rfl) (by simp) ?_
                    refine AllReadyH.cons (o := { dst := some 112, op := Op.call { callee := Callee.value (Operand.func 51), args := #[Operand.tmp 107, Operand.tmp 111, Operand.const (Value.int IntKind.i64 4)], argTypes := #[23, 105, 3] }, type := 23, pos := "tx.go:49", after := #[{ on := 0, ground := Ground.data }, { on := 4, ground := Ground.data }], guard := none }) rfl (fun K hK => ?_) ?_
                    · go_simp
                      have HNr := Lib.hid (number_k w.heap.size (.slice A8 n8 C8) n8 (bv E8) (yn : Int) 4 w8.drew dS.out.base dS.out.own (by omega) (by omega) (by omega) (by omega))
                      rw [show ((4 : Nat) : Int) = 4 from rfl] at HNr
                      refine HNr.out.mono ?_
                      clear HNr
                      intro e wN hr
                      have eY := Lib.hid (OwnRetK.kept hr |>.row dY.out (by decide))
                      obtain ⟨A9, C9, rfl, hs⟩ := dS.out.ret (by decide) hr rfl
                      have eS := Lib.hid hs
                      have eC := Lib.hid (HCy.out _ eY.out)
                      have eD := Lib.hid (HDt.out _ eS.out.bel)
                      clear dS dY dC hr hs hwn
                      have dS := eS
                      have dC := eC
                      clear eS eC
                      (try go_wp2_with fail)
                      refine hK.out _ _ ?_ (fun hNew => ?_)
                      · ((try dsimp only); exact dC.out)
                      clear hK K hHeld
                      have hHeld := hNew
                      clear hNew
                      (try simp only [Act.put, List.setIfInBounds_toArray, List.set_cons_zero, List.set_cons_succ])
                      refine wpAnyH_ready (rs := [8]) (by kernel_rfl) (by simp) ?_
                      refine AllReadyH.cons (o := { dst := some 115, op := Op.call { callee := Callee.builtin Builtin.append, args := #[Operand.tmp 112, Operand.tmp 114], argTypes := #[23, 23] }, type := 23, pos := "tx.go:49", after := #[{ on := 5, ground := Ground.data }, { on := 7, ground := Ground.data }, { on := 5, ground := Ground.chain }], guard := none }) rfl (fun K hK => ?_) ?_
                      · refine step_append_k wN rfl _ _ rfl w.heap.size (.slice A9 (n8 + 4) C9) (n8 + 4) _ rfl dS.out.own yA yn yC yl rfl eD.out (by omega) dS.out.base ?_
                        intro A10 C10 w10 ho hb hk
                        have eS := Lib.hid (dS.out.next (by decide) ho hb hk)
                        have eC := Lib.hid (HCy.out _ (hk.row eY.out (by decide)))
                        clear dS dC ho hb hk eD
                        have dS := eS
                        have dC := eC
                        clear eS eC
                        (try go_wp2_with fail)
                        refine hK.out _ _ ?_ (fun hNew => ?_)
                        · ((try dsimp only); exact dC.out)
                        clear hK K hHeld
                        have hHeld := hNew
                        clear hNew
                        (try simp only [Act.put, List.setIfInBounds_toArray, List.set_cons_zero, List.set_cons_succ])
                        refine wpAnyH_take (i := 9) (oi := { dst := some 4, op := Op.assign (Operand.tmp 115), type := 23, pos := "tx.go:49", after := #[{ on := 8, ground := Ground.data }, { on := 8, ground := Ground.chain }, { on := 0, ground := Ground.phase }, { on := 1, ground := Ground.phase }, { on := 2, ground := Ground.phase }, { on := 3, ground := Ground.phase }, { on := 4, ground := Ground.phase }, { on := 5, ground := Ground.phase }, { on := 6, ground := Ground.phase }, { on := 7, ground := Ground.phase }, { on := 8, ground := Ground.phase }], guard := none }) (v := ?_) rfl (by kernel_rfl) (by kernel_rfl) (by kernel_rfl) (fun _ _ _ h => h) (Or.inl ⟨by rfl, ?_⟩) (by assumption) ?_
                        rotate_left 1
                        · ((intro w hSw; (try dsimp only at hSw); go_simp) <;> with_reducible rfl)
                        (try simp only [Act.put, List.setIfInBounds_toArray, List.set_cons_zero, List.set_cons_succ])
                        refine wpAnyH_done (by kernel_rfl) ?_ _
                        refine NoPanic.normal ?_
                        clear hHeld dC
                        obtain ⟨n10, hn10⟩ : ∃ n10, n10 = n8 + 4 + yn := ⟨_, rfl⟩
                        have eS := dS.out
                        rw [← hn10] at eS ⊢
                        have hl10 : n10 ≤ 6000000000 + 1000000100 * (j + 1) := by omega
                        have HS12 : Hid (Bs w w.heap.size X 68 75 DE w10 (.slice A10 n10 C10) n10 (E2 ++ myBs (ys.take (j + 1)))) := Lib.hid (by
                          have h := eS
                          rw [HE8.out, HEj.out] at h
                          rw [HSt.out]
                          simpa [List.append_assoc] using h)
                        clear hn10 eS dS
                        go_wp2_with fail
                        go_roundw
                        case rel => exact ⟨j + 1, n10, A10, C10, rfl, by go_num, by omega, hl10, HS12⟩
                        case measure => simp [intOf]; omega
                      exact AllReadyH.nil
                    exact AllReadyH.nil
                  · have ej : j = m := by omega
                    have hd2 : decide ((j : Int) < (m : Int)) = false := by simp; omega
                    have hS : w.heap.size ≤ w.heap.size ∧ Bs w w.heap.size X 68 75 DE wr (.slice A6 n6 C6) n6 (txB TD) := by
                      have h := HS6.out
                      rw [ej, List.take_of_length_le (by rw [HYl.out]; exact Nat.le_refl _), HE2.out, HE1x.out] at h
                      rw [HTB.out, ← Hf1.out, HMl.out, HYl.out]
                      exact ⟨Nat.le_refl _, by simpa [List.append_assoc, HH1t.out, HH2t.out] using h⟩
                    have HS0 := Lib.hid hS.2
                    have hl0 := hS.2.len
                    clear HS6 hS ej hq
                    go_wp2_with fail
                    refine HPost.out _ _ HS0.out.bel (.inr ⟨HE.out, A6, C6, ?_, ?_⟩)
                    · rw [← hl0]; rfl
                    · rw [← hl0]; exact HS0.out.own
end Go.Proofs.Ytmcmapgllaopmaa.Cd
end
