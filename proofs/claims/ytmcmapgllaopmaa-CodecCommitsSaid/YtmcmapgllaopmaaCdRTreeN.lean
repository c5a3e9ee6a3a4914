/- The document's EncodeTree at any entries. -/
import Derived.Test.YtmcmapgllaopmaaCdTreeN
namespace Go.Proofs.Ytmcmapgllaopmaa.Cd
open Go.RowKit
set_option linter.unusedVariables false

theorem new2 (a b : Int) (w : World) : ∀ j u, (bv [a, b])[j]? = some u → (w.alloc (.cells (bv [a, b]).toArray 5)).cell? (Addr.add ⟨w.heap.size, 0, none⟩ j) = some u := new_cells [a, b] w _

theorem range_ent' {w : World} {b o : Nat} {s : ByteArray} {k : Int} {ids : List Int} (h : w.rangeAt b o (ent s k ids)) : w.cell? ⟨b, o, none⟩ = some (.string s) ∧ w.cell? ⟨b, o + 1, none⟩ = some (.int .i64 k) ∧ w.rangeAt b (o + 2) (bv ids) :=
  ⟨h 0 _ rfl, h 1 _ rfl, fun j v hv => by
    have := h (j + 2) v hv
    rw [show o + 2 + j = o + (j + 2) by omega]
    exact this⟩

set_option maxRecDepth 100000 in
set_option maxHeartbeats 1000000 in
theorem rencodeTree_any (A : Option Addr) (n C : Nat) (es : List Fr.Ent) (w : World) (h : RdE w A n C es) :
    Calls Try.prog 13 #[.slice A n C] w (EtRet es w) := by
  obtain ⟨i0, hi, hz0, hz1, hz2⟩ := info_parts info5
  have hl := h.len
  have hcap := h.cap
  have hmax := h.max
  have hbig := h.big
  have HRd := Lib.hid h
  have HLt : Hid (∀ x, A = some x → 0 < n → x.block < w.heap.size) := Lib.hid (fun x hx h0 => by
    obtain ⟨g, o, h1, h2, -⟩ := h.cell h0
    rw [h1] at hx
    obtain rfl := Option.some.inj hx
    exact h2)
  have HB0 := Lib.hid (Below.refl w.heap.size w)
  clear h
  by_cases hgt : 512 < n
  · have HE : Hid (eE es = 4) := Lib.hid (by unfold eE; rw [if_pos (by omega)])
    have hd : decide ((512 : Int) < (n : Int)) = true := by simp; omega
    go_enter Try.func13, Try.ntmps13
    go_wp2_with fail
    go_ret2
    exact ⟨HB0.out, .inl ⟨by rw [HE.out]; decide, by rw [HE.out]; rfl⟩⟩
  · have HE : Hid (eE es = eF es none) := Lib.hid (by unfold eE; rw [if_neg (by omega)])
    have hd : decide ((512 : Int) < (n : Int)) = false := by simp; omega
    go_enter Try.func13, Try.ntmps13
    go_wp2_with fail
    go_loopw [4, 5, 6] (fun b s i wr => ∃ (k : Nat) (last : ByteArray), i = .int .i64 k ∧ s = .string last ∧ k ≤ n ∧ Hid (eF (es.drop k) (lastN (es.take k)) = eF es none) ∧ Hid (lastN (es.take k) = if (k == 0) = true then none else some last) ∧ Hid (wr.ownsRow w.heap.size 5 1 b (eB (es.take k)).length (bv (eB (es.take k)))) ∧ (eB (es.take k)).length ≤ k * 100 ∧ Hid (RdE wr A n C es) ∧ Hid (Below w.heap.size w wr)) (fun _ _ i _ => n - (intOf i).toNat)
    case atStart => exact ⟨0, ByteArray.empty, rfl, rfl, Nat.zero_le _, Lib.hid rfl, Lib.hid rfl, Lib.hid ⟨rfl, .inl ⟨rfl, rfl⟩⟩, Nat.zero_le _, HRd, HB0⟩
    case round =>
      clear HRd HB0
      obtain ⟨k, last, rfl, rfl, hk, HF, HLa, HO, hlen, HRd, HB⟩ := hrel
      by_cases hlt : k < n
      · obtain ⟨g, o, rfl, hgl, hcc⟩ := HRd.out.cell (by omega)
        have hst := eF_step es k (by omega)
        rw [HF.out] at hst
        have hbs := eB_step es k (by omega)
        have hla := lastN_take es k (by omega)
        have hok := HRd.out.ok _ (getDE_mem (k := k) (by omega))
        obtain ⟨nm, hnm⟩ : ∃ nm, nm = (es.getD k default).name := ⟨_, rfl⟩
        obtain ⟨kd, hkd⟩ : ∃ kd, kd = (es.getD k default).kind := ⟨_, rfl⟩
        obtain ⟨ids, hids⟩ : ∃ ids, ids = (es.getD k default).id := ⟨_, rfl⟩
        have HXc : Hid (wr.rangeAt g (o + k * 34) (ent nm kd ids)) := Lib.hid (by rw [hnm, hkd, hids]; exact hcc k hlt)
        have he1 : eB1 (es.getD k default) = kd :: (nm.size : Int) :: (sv nm ++ ids) := by rw [hnm, hkd, hids]; rfl
        rw [he1] at hbs
        rw [← hnm, ← hids] at hok
        rw [← hnm] at hla
        obtain ⟨b, hb⟩ : ∃ b, (k == 0) = b := ⟨_, rfl⟩
        have hbi : ((k : Int) == 0) = b := by rw [← hb]; cases hq : (k == 0) <;> simp_all
        rw [← hnm, ← hkd, ← hids, HLa.out, hb] at hst
        have HIl := Lib.hid hok.1
        have Hsz : Hid (nm.size ≤ 140737488355327) := Lib.hid (Nat.le_trans hok.2 (by decide))
        have HES : Hid ((Try.prog.info? 87).map (·.size) = some (ent nm kd ids).length) := Lib.hid (by rw [ent_length nm kd ids HIl.out]; kernel_rfl)
        have HBs := Lib.hid hbs
        have HLa2 := Lib.hid hla
        have HEn := Lib.hid (rentry_any nm kd ids HIl.out Hsz.out b last wr)
        obtain ⟨E, hE⟩ : ∃ E, E = ce kd nm ids (if b = true then none else some last) := ⟨_, rfl⟩
        rw [← hE] at hst HEn
        have hwr : w.heap.size ≤ wr.heap.size := HB.out.size
        have hk0 : (0 : Int) ≤ (k : Int) := by omega
        have hk1 : (k : Int) < (n : Int) := by omega
        have hkn : k < n := hlt
        have hgw : g < w.heap.size := HLt.out _ rfl (by omega)
        clear hbs he1 hok hcc hnm hkd hids hb hla HLa
        go_wp2_with (refine wpList_load_mid rfl _ _ rfl g (o + k * 34) rfl (ent nm kd ids) _ HXc.out Try.underlying87 rfl HES.out ?_)
        refine HEn.out.mono ?_
        rintro e w7 ⟨rfl, hb7⟩
        have HX7 := Lib.hid (range_below hb7 HXc.out hgl)
        have HR7 := Lib.hid (HRd.out.below hb7)
        have HO7 := Lib.hid (own_keep HO.out hb7)
        have HB7 := Lib.hid (HB.out.trans (hb7.mono hwr))
        have hw7 : w.heap.size ≤ w7.heap.size := HB7.out.size
        clear hb7 HXc HRd HO HB HEn hgl
        by_cases h0 : E = 0
        · have hE0 : (E != 0) = false := by simp [h0]
          have hcz := ce_zero (hE.symm.trans h0)
          rw [if_pos h0] at hst
          have HF2 := Lib.hid hst.symm
          have hk1' := hcz.1
          have hk4' := hcz.2.1
          have hn40 : nm.size ≤ 40 := by have := hcz.2.2.2.1; omega
          have hwK : IntKind.u8.wrap kd = kd := IntWalk.u8_in _ (by omega)
          have hwS : IntKind.u8.wrap (nm.size : Int) = (nm.size : Int) := IntWalk.u8_in _ (by omega)
          obtain ⟨hc0', hc1', hr2⟩ := range_ent' HX7.out
          clear hE hst hcz h0
          go_wp2_with (at_builtin; refine wpList_append_own _ rfl _ _ 23 rfl w.heap.size 5 i0 (.int .u8 0) 1 1 Try.underlying23 hi hz0 hz1 hz2 rfl (by decide) _ _ _ rfl (own_keep HO7.out ((Below.refl w7.heap.size w7).alloc (Nat.le_refl _) (.cells (bv [kd, (nm.size : Int)]).toArray 5))) ⟨w7.heap.size, 0, none⟩ 2 2 (bv [kd, (nm.size : Int)]) rfl rfl ?c1 (bv_one _) ?c3 ?c4 ?c5 ?_)
          case c1 => exact new2 kd (nm.size : Int) w7
          case c3 => unfold maxLen; omega
          case c4 => omega
          case c5 => exact Nat.le_trans hw7 (al_le w7 _)
          intro v8 w8 ho8 hg8 hnil8
          have hb8 : Below w.heap.size w7 w8 := ((Below.refl w.heap.size w7).alloc hw7 (.cells (bv [kd, (nm.size : Int)]).toArray 5)).trans (below_grown (Nat.le_trans hw7 (al_le w7 _)) (own_keep HO7.out ((Below.refl w7.heap.size w7).alloc (Nat.le_refl _) (.cells (bv [kd, (nm.size : Int)]).toArray 5))) hg8)
          have HB8 := Lib.hid (HB7.out.trans hb8)
          have HR8 := Lib.hid (HR7.out.belowB hb8 HLt.out)
          have HI8 := Lib.hid (range_below hb8 hr2 hgw)
          have HO8 := Lib.hid ho8
          have hw8 : w.heap.size ≤ w8.heap.size := HB8.out.size
          clear ho8 hg8 hnil8 hb8 hc0' hc1' hr2 HB7 HR7 HO7 hw7 HX7
          go_wp2_with (at_builtin; refine Lib.wpList_append_own_string _ rfl _ _ _ _ rfl w.heap.size 5 i0 Try.underlying23 Try.underlying9 hi hz0 hz1 hz2 _ _ _ rfl HO8.out nm rfl ?e1 ?e2 ?e3 ?_)
          case e1 => unfold maxLen; omega
          case e2 => omega
          case e3 => omega
          intro v9 w9 ho9 hg9 hnil9
          have hb9 := below_grown hw8 HO8.out hg9
          have HB9 := Lib.hid (HB8.out.trans hb9)
          have HR9 := Lib.hid (HR8.out.belowB hb9 HLt.out)
          have HI9 := Lib.hid (range_below hb9 HI8.out hgw)
          have HO9 := Lib.hid ho9
          have hw9 : w.heap.size ≤ w9.heap.size := HB9.out.size
          have HSi : Hid ((Try.prog.info? 37).map (·.size) = some (bv ids).length) := Lib.hid (by rw [bv_len, HIl.out]; kernel_rfl)
          have HPu := Lib.hid (put_k w.heap.size v9 _ _ ids HIl.out w9 hw9 HO9.out (by omega))
          clear ho9 hg9 hnil9 hb9 HB8 HR8 HI8 HO8 hw8
          generalize hDI : bv ids = DI at *
          have HDI := Lib.hid hDI
          clear hDI
          go_wp2_with (refine wpList_load_mid rfl _ _ rfl g (o + k * 34 + 2) rfl DI _ HI9.out Try.underlying37 rfl HSi.out ?_)
          refine HPu.out.mono ?_
          rintro e w10 ⟨v10, rfl, ho10, hb10, -⟩
          have HLn2 : Hid ((eB (es.take (k + 1))).length = (eB (es.take k)).length + 2 + nm.size + 32) := Lib.hid (by rw [HBs.out]; simp [sv_len, HIl.out]; omega)
          have HO10 := Lib.hid (own_eq (ys := bv (eB (es.take (k + 1)))) (m := (eB (es.take (k + 1))).length) ho10 (by rw [HBs.out, ← sv_cells, ← HDI.out]; simp [bv]) (by rw [HLn2.out]))
          have HB10 := Lib.hid (HB9.out.trans hb10)
          have HR10 := Lib.hid (HR9.out.belowB hb10 HLt.out)
          clear ho10 hb10 HPu HB9 HR9 HI9 HO9 hw9
          go_wp2_with fail
          go_roundw
          case rel => exact ⟨k + 1, nm, by go_num, rfl, by omega, HF2, Lib.hid (by rw [HLa2.out]; simp), HO10, by have := HLn2.out; omega, HR10, HB10⟩
          case measure => simp [intOf]; omega
        · have hE0 : (E != 0) = true := by simp [h0]
          rw [if_neg h0] at hst
          have HE2 := Lib.hid (HE.out.trans hst)
          have H0 := Lib.hid h0
          clear hE hst h0
          go_wp2_with fail
          go_ret2
          exact ⟨HB7.out, .inl ⟨by rw [HE2.out]; exact H0.out, by rw [HE2.out]; rfl⟩⟩
      · have ek : k = n := by omega
        have hd2 : decide ((k : Int) < (n : Int)) = false := by simp; omega
        have hd3 : ¬ k < n := hlt
        have HF2 : Hid (eF es none = 0) := Lib.hid (by
          have h := HF.out
          rw [ek, List.drop_of_length_le (by omega)] at h
          exact h.symm)
        have HO2 : Hid (wr.ownsRow w.heap.size 5 1 _ (eB es).length (bv (eB es))) := Lib.hid (by
          have h := HO.out
          rw [ek, List.take_of_length_le (by omega)] at h
          exact h)
        clear HF HO HRd hlen HLa
        go_wp2_with fail
        go_ret2
        exact ⟨HB.out, .inr ⟨by rw [HE.out, HF2.out], _, rfl, HO2.out⟩⟩
end Go.Proofs.Ytmcmapgllaopmaa.Cd
