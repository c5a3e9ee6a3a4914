/- Texts of one's own, merged: CdTxF, CdTxK, CdCo, CdBk, CdBw. -/
import Derived.Test.YtmcmapgllaopmaaMj

section
namespace Go.Proofs.Ytmcmapgllaopmaa.Cd
open Go.RowKit
set_option linter.unusedVariables false
/-- what came in -/
structure TxS.In (t : TxS) (G : Nat) (w : World) : Prop where
  ho : IdOk t.og
  hc : IdOk t.cu
  hM : RdS G 66 w t.A t.n t.C (t.ms.map Mv.cells)
  hMi : ∀ x ∈ t.ms, IdOk x.od ∧ IdOk x.nw ∧ x.nm.size ≤ 140737488351232 ∧ x.wy.size ≤ 140737488351232
  hT : RdT G w t.At t.nt t.Ct t.ts
  hTi : ∀ x ∈ t.ts, IdOk x.id
  hY : RdS G 33 w t.Am t.m t.Cm (t.ys.map My.cells)
  hYi : ∀ y ∈ t.ys, IdOk y.key ∧ RdG G w y.A y.n y.C y.l
  hn : t.n ≤ 5000000000000
  hm : t.m ≤ 5000000000000
  hnt : t.nt ≤ 5000000000000
  hhd : t.hd.size ≤ 140737488351232
  hbr : t.br.size ≤ 140737488351232
theorem TxS.In.below {t : TxS} {G : Nat} {w w' : World} (h : t.In G w) (hb : Below w.heap.size w w') (hG : G ≤ w.heap.size) : t.In G w' :=
  ⟨h.ho, h.hc, h.hM.below hb hG, h.hMi, h.hT.below hb hG, h.hTi, h.hY.below hb hG, fun y hy => ⟨(h.hYi y hy).1, (h.hYi y hy).2.below hb (Nat.le_refl _) hG⟩, h.hn, h.hm, h.hnt, h.hhd, h.hbr⟩
/-- not too much -/
structure TxS.Fw (t : TxS) : Prop where
  n : t.n < 100
  m : t.m < 100
  s : t.hd.size + t.br.size + 33 * t.nt < 80000
  ms : ∀ x ∈ t.ms, x.nm.size + x.wy.size < 80000
  ys : ∀ y ∈ t.ys, y.n < 80000
theorem TxS.In.rd {t : TxS} {G : Nat} {w : World} (h : t.In G w) (f : t.Fw) : t.Rd G w := by
  have h1 := f.n
  have h2 := f.m
  have h3 := f.s
  exact ⟨h.ho, h.hc, ⟨h.hM, fun m hm => ⟨(h.hMi m hm).1.1, (h.hMi m hm).2.1.1, by have := f.ms m hm; omega, by have := f.ms m hm; omega⟩⟩, fun x hx => ⟨(h.hMi x hx).1, (h.hMi x hx).2.1⟩, h.hT, h.hTi,
    ⟨h.hY, fun y hy => ⟨(h.hYi y hy).1.1, by have := f.ys y hy; omega, (h.hYi y hy).2⟩⟩, fun y hy => (h.hYi y hy).1, by omega, by omega, by omega, by omega, by omega⟩
theorem list_choose {α : Type} {f : α → List Value} {P : α → Prop} : ∀ cs : List (List Value), (∀ c ∈ cs, ∃ y, c = f y ∧ P y) → ∃ ys : List α, cs = ys.map f ∧ ∀ y ∈ ys, P y
  | [], _ => ⟨[], rfl, fun y hy => absurd hy (by simp)⟩
  | c :: cs, h => by
    obtain ⟨y, e, hy⟩ := h c (List.mem_cons_self ..)
    obtain ⟨ys, e2, hys⟩ := list_choose cs (fun d hd => h d (List.mem_cons_of_mem _ hd))
    exact ⟨y :: ys, by rw [e, e2]; rfl, fun z hz => by
      rcases List.mem_cons.1 hz with rfl | hz
      · exact hy
      · exact hys z hz⟩
theorem RdS.of_st {good : List Value → Prop} {sz b : Nat} {w : World} {a : Option Addr} {n c : Nat} {cs : List (List Value)} (h : Fr.IsSt good sz b w a n c cs) (hs : 0 < sz) (hb : 0 < b) : RdS w.heap.size sz w a n c cs ∧ (∀ x ∈ cs, x.length = sz ∧ good x) ∧ n * b ≤ 140737488351232 := by
  rcases h with ⟨rfl, rfl, rfl, rfl⟩ | ⟨x, rfl, hl, hc, hlen, hcell, hwf⟩
  · exact ⟨RdS.nil _ _ _, fun x hx => absurd hx (by simp), by omega⟩
  · have hcb : c ≤ c * b := Nat.le_mul_of_pos_right _ hb
    have hnb : n * b ≤ c * b := Nat.mul_le_mul_right _ hl
    refine ⟨⟨hlen, hl, by omega, fun c hc => (hwf c hc).1, fun h0 => ?_⟩, hwf, by omega⟩
    have h32 : (cs.getD 0 []).length = sz := (hwf _ (getD_memL (by omega))).1
    have hc0 := hcell 0 h0 0 ((cs.getD 0 [])[0]'(by omega)) (List.getElem?_eq_getElem (by omega))
    obtain ⟨bb, off, spot⟩ := x
    have hspot : spot = Option.none := by simpa [Addr.add] using World.cell?_spot hc0
    subst hspot
    refine ⟨bb, off, rfl, by simpa [Addr.add] using block_lt_of_cell hc0, fun i hi j v hj => ?_⟩
    have := hcell i hi j v hj
    rw [Addr.add_mid, Addr.add_mid] at this
    exact this
theorem idOk_of {q : List Int} (h : Fr.IsId q) : IdOk q := ⟨h.1, fun i hi => by
  have h2 := h.1
  have h3 := h.2 (q.getD i 0) (by rw [List.getD_eq_getElem?_getD, List.getElem?_eq_getElem (by omega)]; exact List.getElem_mem _)
  exact h3⟩
theorem RdG.of_ints {w : World} {a : Option Addr} {n c : Nat} {z : List Int} (h : Fr.IsInts .u8 1 w a n c z) : RdG w.heap.size w a n c z :=
  ⟨rd_of_ints h, fun x hx h0 => ((rd_of_ints h).cell x hx).1 h0⟩
theorem sq_of {w : World} {c : List Value} (h : Fr.GSeq w c) : ∃ (k : Int) (br : ByteArray) (og cu : List Int) (At : Option Addr) (nt Ct : Nat) (ts : List Td) (dn md : Int) (st : Bool),
    c = sqV k br og cu (.slice At nt Ct) dn md st ∧ br.size ≤ 140737488351232 ∧ IdOk og ∧ IdOk cu ∧ RdT w.heap.size w At nt Ct ts ∧ (∀ x ∈ ts, IdOk x.id) ∧ nt ≤ 5000000000000 ∧ (Lit.int .i64 k).wf = true ∧ (Lit.int .i64 dn).wf = true ∧ (Lit.int .i64 md).wf = true := by
  obtain ⟨k, br, og, cu, At, nt, Ct, y4, dn, md, st, rfl, hk, hbr, hog, hcu, hst, hdn, hmd⟩ := h
  obtain ⟨h1, h2, h3⟩ := RdS.of_st hst (by decide) (by decide)
  obtain ⟨ts, rfl, hts⟩ := list_choose (f := Td.cells) (P := fun t => IdOk t.id) y4 (fun c hc => by
    obtain ⟨-, k0, q1, rfl, -, hq⟩ := h2 c hc
    exact ⟨⟨k0, q1⟩, rfl, idOk_of hq⟩)
  exact ⟨k, br, og, cu, At, nt, Ct, ts, dn, md, st, rfl, hbr, idOk_of hog, idOk_of hcu, ⟨h1, fun t ht => (hts t ht).1⟩, hts, by omega, hk, hdn, hmd⟩
theorem txs_of {w : World} {c : List Value} (h : Fr.GTx w c) : ∃ t : TxS, c = t.V ∧ t.In w.heap.size w := by
  obtain ⟨hh, hd, A, n, C, y2, hs, x4, Am, m, Cm, y5, rfl, hhd, hM, hS, hY⟩ := h
  obtain ⟨k, br, og, cu, At, nt, Ct, ts, dn, md, st, rfl, hbr, ho, hc, hT, hTi, hnt, -⟩ := sq_of hS
  obtain ⟨a1, a2, a3⟩ := RdS.of_st hM (by decide) (by decide)
  obtain ⟨ms, rfl, hms⟩ := list_choose (f := Mv.cells) (P := fun x => IdOk x.od ∧ IdOk x.nw ∧ x.nm.size ≤ 140737488351232 ∧ x.wy.size ≤ 140737488351232) y2 (fun c hc => by
    obtain ⟨-, s0, q1, q2, s3, rfl, h0, h1, h2, h3⟩ := a2 c hc
    exact ⟨⟨s0, q1, q2, s3⟩, rfl, idOk_of h1, idOk_of h2, h0, h3⟩)
  obtain ⟨b1, b2, b3⟩ := RdS.of_st hY (by decide) (by decide)
  obtain ⟨ys, rfl, hys⟩ := list_choose (f := My.cells) (P := fun y => IdOk y.key ∧ RdG w.heap.size w y.A y.n y.C y.l) y5 (fun c hc => by
    obtain ⟨-, q0, a1, n1, c1, z1, rfl, h0, h1⟩ := b2 c hc
    exact ⟨⟨q0, a1, n1, c1, z1⟩, rfl, idOk_of h0, RdG.of_ints h1⟩)
  exact ⟨⟨hh, hd, A, n, C, ms, hs, k, br, og, cu, At, nt, Ct, ts, dn, md, st, Am, m, Cm, ys⟩, rfl, ho, hc, a1, hms, hT, hTi, b1, hys, by show n ≤ _; omega, by show m ≤ _; omega, hnt, hhd, hbr⟩
set_option maxRecDepth 100000 in
set_option maxHeartbeats 8000000 in
theorem few_any (t : TxS) (G : Nat) (w : World) (h : t.In G w) (hG : G ≤ w.heap.size) :
    Calls Try.prog 28 #[.agg t.V.toArray] w fun e w' => ∃ b : Bool, e = .returned (.bool b) ∧ (b = true → t.Fw) ∧ Below w.heap.size w w' := by
  have hb1 := (Below.refl w.heap.size w).alloc (Nat.le_refl _) (.cells t.V.toArray 68)
  have hr1 := row_newL w t.V 68 75 (TxS.V_len h.ho.1 h.hc.1)
  have hI := h.below hb1 hG
  have HB1 := Lib.hid hb1
  obtain ⟨hh, hd, A, n, C, ms, hs, k, br, og, cu, At, nt, Ct, ts, dn0, md, st, Am, m, Cm, ys⟩ := t
  have hta := tx_at (TxS.sq_len (t := ⟨hh, hd, A, n, C, ms, hs, k, br, og, cu, At, nt, Ct, ts, dn0, md, st, Am, m, Cm, ys⟩) h.ho.1 h.hc.1) (row_range hr1 (TxS.V_len h.ho.1 h.hc.1))
  have hsa := sq_at h.ho.1 h.hc.1 hta.sq
  have HI := Lib.hid hI
  have HMl : Hid (ms.length = n) := Lib.hid (by have := h.hM.len; simpa using this)
  have HYl : Hid (ys.length = m) := Lib.hid (by have := h.hY.len; simpa using this)
  have hn : n ≤ 5000000000000 := h.hn
  have hm : m ≤ 5000000000000 := h.hm
  have hnt : nt ≤ 5000000000000 := h.hnt
  have hhd : hd.size ≤ 140737488351232 := h.hhd
  have hbr : br.size ≤ 140737488351232 := h.hbr
  have hmax := h.hM.max
  have hcap := h.hM.cap
  have hmay := h.hY.max
  have hcay := h.hY.cap
  have HPost : Hid (∀ (b : Bool) (w' : World), (b = true → (⟨hh, hd, A, n, C, ms, hs, k, br, og, cu, At, nt, Ct, ts, dn0, md, st, Am, m, Cm, ys⟩ : TxS).Fw) → Below w.heap.size w w' → ((fun e w' => ∃ b : Bool, e = Ending.returned (.bool b) ∧ (b = true → (⟨hh, hd, A, n, C, ms, hs, k, br, og, cu, At, nt, Ct, ts, dn0, md, st, Am, m, Cm, ys⟩ : TxS).Fw) ∧ Below w.heap.size w w') (Ending.returned (.bool b)) w')) := Lib.hid (fun b w' e hb => ⟨b, rfl, e, hb⟩)
  generalize hPD : (fun e w' => ∃ b : Bool, e = Ending.returned (.bool b) ∧ (b = true → (⟨hh, hd, A, n, C, ms, hs, k, br, og, cu, At, nt, Ct, ts, dn0, md, st, Am, m, Cm, ys⟩ : TxS).Fw) ∧ Below w.heap.size w w') = PO at *
  have hc1 := hta.c1
  have hc2 := hta.c2
  have hc5 := hsa.c1
  have hc70 := hsa.td
  have hc74 := hta.mm
  rw [show 4 + 1 = 5 from rfl] at hc5
  rw [show 4 + 66 = 70 from rfl] at hc70
  generalize TxS.V _ = CM at *
  clear hPD hb1 hr1 hta hsa hI h
  go_enter Try.func28, Try.ntmps28
  go_upto_region 1 with (fail)
  generalize w.alloc (.cells CM.toArray 68) = wA at *
  generalize w.heap.size = X at *
  obtain ⟨N1, hN1⟩ : ∃ N1, N1 = hd.size + br.size := ⟨_, rfl⟩
  obtain ⟨N2, hN2⟩ : ∃ N2, N2 = 33 * nt := ⟨_, rfl⟩
  obtain ⟨N3, hN3⟩ : ∃ N3, N3 = N1 + N2 := ⟨_, rfl⟩
  have e1 : IntKind.i64.wrap ((hd.size : Int) + (br.size : Int)) = (N1 : Int) := by rw [IntWalk.i64_in _ (by omega)]; omega
  have e2 : IntKind.i64.wrap (33 * (nt : Int)) = (N2 : Int) := by rw [IntWalk.i64_in _ (by omega)]; omega
  have e3 : IntKind.i64.wrap ((N1 : Int) + (N2 : Int)) = (N3 : Int) := by rw [IntWalk.i64_in _ (by omega)]; omega
  have hN3b : N3 ≤ 500000000000000 := by omega
  have HN : Hid (N3 = hd.size + br.size + 33 * nt) := Lib.hid (by omega)
  have HC2 := Lib.hid hc2
  have HC74 := Lib.hid hc74
  clear hN1 hN2 hN3 hc74
  go_upto_region 2 with (fail)
  clear e1 e2 e3 hc1 hc5 hc70 hhd hbr hnt
  go_upto_block 0 with (fail)
  clear hc2
  go_cut [3] (fun s3 wx => ∃ nv : Nat, s3 = .int .i64 nv ∧ N3 ≤ nv ∧ nv ≤ 100000000000000000 ∧ Hid (n < 100 → ∀ x ∈ ms, x.nm.size + x.wy.size ≤ nv) ∧ Hid (∃ dn, wx = wA.drewN dn))
  case first =>
    go_wp2_with fail
    go_loopw [3, 4] (fun s3 s4 wr => ∃ (nv j : Nat), s3 = .int .i64 nv ∧ s4 = .int .i64 j ∧ j ≤ n ∧ j ≤ 100 ∧ N3 ≤ nv ∧ nv ≤ N3 + j * 281474976702464 ∧ Hid (∀ i, i < j → (ms.getD i default).nm.size + (ms.getD i default).wy.size ≤ nv) ∧ Hid (∃ dn, wr = wA.drewN dn)) (fun _ s4 _ => n - (intOf s4).toNat)
    case atStart => exact ⟨N3, 0, rfl, rfl, Nat.zero_le _, by omega, Nat.le_refl _, by omega, Lib.hid (fun i hi => absurd hi (by omega)), Lib.hid ⟨0, rfl⟩⟩
    case round =>
      obtain ⟨nv, j, rfl, rfl, hj, hj1, hlo, hup, HS, HD⟩ := hrel
      have hc2 : wr.cell? ⟨X, 2, none⟩ = some (.slice A n C) := by obtain ⟨dn, e⟩ := HD.out; rw [e]; exact HC2.out
      by_cases hlt : j < n
      · have hd1 : (j : Int) < (n : Int) := by omega
        have hd2 : decide ((j : Int) < (n : Int)) = true := by simp; omega
        by_cases h100 : j < 100
        · have hd3 : (j : Int) < 100 := by omega
          have hd4 : decide ((j : Int) < 100) = true := by simp; omega
          obtain ⟨g, o, rfl, hgl, hcc⟩ := HI.out.hM.cell (show 0 < n by omega)
          obtain ⟨t, ht⟩ : ∃ t, t = ms.getD j default := ⟨_, rfl⟩
          have hrg := hcc j hlt
          rw [map_getD _ (by rw [HMl.out]; exact hlt), ← ht] at hrg
          have htm : t ∈ ms := by rw [ht]; exact getD_memI (by rw [HMl.out]; exact hlt)
          have hok := HI.out.hMi t htm
          have hat := mv_o hok.1.1 hok.2.1.1 hrg
          have hcn : wr.cell? ⟨g, o + j * 66, none⟩ = some (.string t.nm) := by obtain ⟨dn, e⟩ := HD.out; rw [e]; exact hat.nm
          have hcw : wr.cell? ⟨g, o + j * 66 + 65, none⟩ = some (.string t.wy) := by obtain ⟨dn, e⟩ := HD.out; rw [e]; exact hat.wy
          obtain ⟨a1, ha1⟩ : ∃ a1, a1 = t.nm.size := ⟨_, rfl⟩
          obtain ⟨a2, ha2⟩ : ∃ a2, a2 = t.wy.size := ⟨_, rfl⟩
          have hs1 := hok.2.2.1
          have hs2 := hok.2.2.2
          have hz0 : (0 : Int) ≤ (j : Int) := by omega
          obtain ⟨nm, hnm⟩ : ∃ nm, nm = t.nm := ⟨_, rfl⟩
          obtain ⟨wy, hwy⟩ : ∃ wy, wy = t.wy := ⟨_, rfl⟩
          rw [← hnm] at hcn hs1
          rw [← hwy] at hcw hs2
          obtain ⟨M1, hM1⟩ : ∃ M1, M1 = nv + nm.size := ⟨_, rfl⟩
          obtain ⟨M2, hM2⟩ : ∃ M2, M2 = M1 + wy.size := ⟨_, rfl⟩
          have hjb : j * 281474976702464 ≤ 100 * 281474976702464 := Nat.mul_le_mul_right _ hj1
          have e4 : IntKind.i64.wrap ((nv : Int) + (nm.size : Int)) = (M1 : Int) := by rw [IntWalk.i64_in _ (by omega)]; omega
          have e5 : IntKind.i64.wrap ((M1 : Int) + (wy.size : Int)) = (M2 : Int) := by rw [IntWalk.i64_in _ (by omega)]; omega
          have HS2 : Hid (∀ i, i < j + 1 → (ms.getD i default).nm.size + (ms.getD i default).wy.size ≤ M2) := Lib.hid (fun i hi => by
            by_cases e : i < j
            · have := HS.out i e; omega
            · obtain rfl : i = j := by omega
              rw [← ht, ← hnm, ← hwy]; omega)
          have HM2 : Hid (N3 ≤ M2 ∧ M2 ≤ N3 + (j + 1) * 281474976702464) := Lib.hid ⟨by omega, by rw [Nat.add_mul]; omega⟩
          clear hcc hrg htm hok hat HS ht ha1 ha2 hnm hwy hM1 hM2 hjb
          go_upto_region 5 with (fail)
          go_quiet (fail)
          go_wp2_with fail
          go_roundw
          case rel => exact ⟨M2, j + 1, rfl, by go_num, by omega, by omega, HM2.out.1, HM2.out.2, HS2, Lib.hid (by obtain ⟨dn, e⟩ := HD.out; exact ⟨dn + nq, by rw [e, World.drewN_drewN]⟩)⟩
          case measure => simp [intOf]; omega
        · have hd3 : ¬ (j : Int) < 100 := by omega
          have hd4 : decide ((j : Int) < 100) = false := by simp; omega
          have HR : Hid (n < 100 → ∀ x ∈ ms, x.nm.size + x.wy.size ≤ nv) := Lib.hid (fun h => absurd h (by omega))
          have hup2 : nv ≤ 100000000000000000 := by
            have hjb : j * 281474976702464 ≤ 100 * 281474976702464 := Nat.mul_le_mul_right _ hj1
            omega
          clear HS
          go_wp2_with fail
          go_meet
          exact ⟨nv, rfl, hlo, hup2, HR, HD⟩
      · have hd1 : ¬ (j : Int) < (n : Int) := by omega
        have hd2 : decide ((j : Int) < (n : Int)) = false := by simp; omega
        have HR : Hid (n < 100 → ∀ x ∈ ms, x.nm.size + x.wy.size ≤ nv) := Lib.hid (fun _ x hx => by
          obtain ⟨i, hi, rfl⟩ := List.getElem_of_mem hx
          have := HS.out i (by have := HMl.out; omega)
          simpa [List.getD, hi] using this)
        have hup2 : nv ≤ 100000000000000000 := by
          have hjb : j * 281474976702464 ≤ 100 * 281474976702464 := Nat.mul_le_mul_right _ hj1
          omega
        clear HS
        go_wp2_with fail
        go_meet
        exact ⟨nv, rfl, hlo, hup2, HR, HD⟩
  case rest =>
    obtain ⟨nv, rfl, hlo, hup, HF1, HD⟩ := hcut
    go_upto_block 2 with (fail)
    go_cut [3] (fun s3 wx => ∃ nz : Nat, s3 = .int .i64 nz ∧ nv ≤ nz ∧ nz ≤ 200000000000000000 ∧ Hid (m < 100 → ∀ y ∈ ys, y.n ≤ nz) ∧ wx = wc)
    case first =>
      go_wp2_with fail
      go_loopw [3, 5] (fun s3 s5 wr => ∃ (nz j : Nat), s3 = .int .i64 nz ∧ s5 = .int .i64 j ∧ j ≤ m ∧ j ≤ 100 ∧ nv ≤ nz ∧ nz ≤ nv + j * 281474976702464 ∧ Hid (∀ i, i < j → (ys.getD i default).n ≤ nz) ∧ wr = wc) (fun _ s5 _ => m - (intOf s5).toNat)
      case atStart => exact ⟨nv, 0, rfl, rfl, Nat.zero_le _, by omega, Nat.le_refl _, by omega, Lib.hid (fun i hi => absurd hi (by omega)), rfl⟩
      case round =>
        obtain ⟨nz, j, rfl, rfl, hj, hj1, hlo2, hup2, HS, hwr⟩ := hrel
        subst hwr
        have hc74 : wr.cell? ⟨X, 74, none⟩ = some (.slice Am m Cm) := by obtain ⟨dn, e⟩ := HD.out; rw [e]; exact HC74.out
        by_cases hlt : j < m
        · have hd1 : (j : Int) < (m : Int) := by omega
          have hd2 : decide ((j : Int) < (m : Int)) = true := by simp; omega
          by_cases h100 : j < 100
          · have hd3 : (j : Int) < 100 := by omega
            have hd4 : decide ((j : Int) < 100) = true := by simp; omega
            obtain ⟨g, o, rfl, hgl, hcc⟩ := HI.out.hY.cell (show 0 < m by omega)
            obtain ⟨t, ht⟩ : ∃ t, t = ys.getD j default := ⟨_, rfl⟩
            have hrg := hcc j hlt
            rw [map_getD _ (by rw [HYl.out]; exact hlt), ← ht] at hrg
            have htm : t ∈ ys := by rw [ht]; exact getD_memI (by rw [HYl.out]; exact hlt)
            have hok := HI.out.hYi t htm
            have hat := my_o hok.1.1 hrg
            have hcn : wr.cell? ⟨g, o + j * 33 + 32, none⟩ = some (.slice t.A t.n t.C) := by obtain ⟨dn, e⟩ := HD.out; rw [e]; exact hat.data
            have hs1 : t.n ≤ 140737488355328 := hok.2.rd.big
            have hz0 : (0 : Int) ≤ (j : Int) := by omega
            obtain ⟨yA, hyA⟩ : ∃ yA, yA = t.A := ⟨_, rfl⟩
            obtain ⟨yn, hyn⟩ : ∃ yn, yn = t.n := ⟨_, rfl⟩
            obtain ⟨yC, hyC⟩ : ∃ yC, yC = t.C := ⟨_, rfl⟩
            rw [← hyA, ← hyn, ← hyC] at hcn
            rw [← hyn] at hs1
            obtain ⟨M1, hM1⟩ : ∃ M1, M1 = nz + yn := ⟨_, rfl⟩
            have hjb : j * 281474976702464 ≤ 100 * 281474976702464 := Nat.mul_le_mul_right _ hj1
            have e4 : IntKind.i64.wrap ((nz : Int) + (yn : Int)) = (M1 : Int) := by rw [IntWalk.i64_in _ (by omega)]; omega
            have HS2 : Hid (∀ i, i < j + 1 → (ys.getD i default).n ≤ M1) := Lib.hid (fun i hi => by
              by_cases e : i < j
              · have := HS.out i e; omega
              · obtain rfl : i = j := by omega
                rw [← ht, ← hyn]; omega)
            have HM2 : Hid (nv ≤ M1 ∧ M1 ≤ nv + (j + 1) * 281474976702464) := Lib.hid ⟨by omega, by rw [Nat.add_mul]; omega⟩
            clear hcc hrg htm hok hat HS ht hyA hyn hyC hM1 hjb
            go_wp2_with fail
            go_roundw
            case rel => exact ⟨M1, j + 1, rfl, by go_num, by omega, by omega, HM2.out.1, HM2.out.2, HS2, trivial⟩
            case measure => simp [intOf]; omega
          · have hd3 : ¬ (j : Int) < 100 := by omega
            have hd4 : decide ((j : Int) < 100) = false := by simp; omega
            have HR : Hid (m < 100 → ∀ y ∈ ys, y.n ≤ nz) := Lib.hid (fun h => absurd h (by omega))
            have hup3 : nz ≤ 200000000000000000 := by
              have hjb : j * 281474976702464 ≤ 100 * 281474976702464 := Nat.mul_le_mul_right _ hj1
              omega
            clear HS
            go_wp2_with fail
            go_meet
            exact ⟨nz, rfl, hlo2, hup3, HR, rfl⟩
        · have hd1 : ¬ (j : Int) < (m : Int) := by omega
          have hd2 : decide ((j : Int) < (m : Int)) = false := by simp; omega
          have HR : Hid (m < 100 → ∀ y ∈ ys, y.n ≤ nz) := Lib.hid (fun _ x hx => by
            obtain ⟨i, hi, rfl⟩ := List.getElem_of_mem hx
            have := HS.out i (by have := HYl.out; omega)
            simpa [List.getD, hi] using this)
          have hup3 : nz ≤ 200000000000000000 := by
            have hjb : j * 281474976702464 ≤ 100 * 281474976702464 := Nat.mul_le_mul_right _ hj1
            omega
          clear HS
          go_wp2_with fail
          go_meet
          exact ⟨nz, rfl, hlo2, hup3, HR, rfl⟩
    case rest =>
      obtain ⟨nz, rfl, hlo2, hup2, HF2, hwx⟩ := hcut
      subst hwx
      have hc2 : wc.cell? ⟨X, 2, none⟩ = some (.slice A n C) := by obtain ⟨dn, e⟩ := HD.out; rw [e]; exact HC2.out
      have hc74 : wc.cell? ⟨X, 74, none⟩ = some (.slice Am m Cm) := by obtain ⟨dn, e⟩ := HD.out; rw [e]; exact HC74.out
      have HBx : Hid (Below X w wc) := Lib.hid (by obtain ⟨dn, e⟩ := HD.out; rw [e]; exact ⟨HB1.out.os, HB1.out.tape, HB1.out.output, HB1.out.size, HB1.out.block⟩)
      by_cases g1 : nz < 80000
      · have hd1 : decide ((nz : Int) < 80000) = true := by simp; omega
        by_cases g2 : n < 100
        · have hd2 : decide ((n : Int) < 100) = true := by simp; omega
          by_cases g3 : m < 100
          · have hd3 : decide ((m : Int) < 100) = true := by simp; omega
            have HFw : Hid ((⟨hh, hd, A, n, C, ms, hs, k, br, og, cu, At, nt, Ct, ts, dn0, md, st, Am, m, Cm, ys⟩ : TxS).Fw) := Lib.hid ⟨g2, g3, by have := HN.out; show hd.size + br.size + 33 * nt < 80000; omega, fun x hx => by have := HF1.out g2 x hx; omega, fun y hy => by have := HF2.out g3 y hy; omega⟩
            clear HF1 HF2
            go_wp2_with fail
            exact HPost.out true _ (fun _ => HFw.out) HBx.out
          · have hd3 : decide ((m : Int) < 100) = false := by simp; omega
            clear HF1 HF2
            go_wp2_with fail
            exact HPost.out false _ (fun h => by cases h) HBx.out
        · have hd2 : decide ((n : Int) < 100) = false := by simp; omega
          clear HF1 HF2
          go_wp2_with fail
          exact HPost.out false _ (fun h => by cases h) HBx.out
      · have hd1 : decide ((nz : Int) < 80000) = false := by simp; omega
        clear HF1 HF2
        go_wp2_with fail
        exact HPost.out false _ (fun h => by cases h) HBx.out
end Go.Proofs.Ytmcmapgllaopmaa.Cd
end

section
namespace Go.Proofs.Ytmcmapgllaopmaa.Cd
open Go.RowKit
set_option linter.unusedVariables false
theorem RdS.up {G G' sz : Nat} {w : World} {A : Option Addr} {n C : Nat} {cs : List (List Value)} (h : RdS G sz w A n C cs) (hG : G ≤ G') : RdS G' sz w A n C cs :=
  ⟨h.len, h.cap, h.max, h.size, fun h0 => by
    obtain ⟨g, o, h1, h2, h3⟩ := h.cell h0
    exact ⟨g, o, h1, Nat.lt_of_lt_of_le h2 hG, h3⟩⟩
theorem TxS.Rd.up {t : TxS} {G G' : Nat} {w : World} (h : t.Rd G w) (hG : G ≤ G') : t.Rd G' w :=
  ⟨h.ho, h.hc, ⟨h.hM.rd.up hG, h.hM.ok⟩, h.hMi, ⟨h.hT.rd.up hG, h.hT.ok⟩, h.hTi, ⟨h.hY.rd.up hG, fun y hy => ⟨(h.hY.ok y hy).1, (h.hY.ok y hy).2.1, ⟨(h.hY.ok y hy).2.2.rd, fun x hx h0 => Nat.lt_of_lt_of_le ((h.hY.ok y hy).2.2.lt x hx h0) hG⟩⟩⟩, h.hYi, h.hn, h.hm, h.hnt, h.hhd, h.hbr⟩
/-- all that is read lies in this world -/
def TxS.Now (t : TxS) (w : World) : Prop := t.Rd w.heap.size w
theorem TxS.Now.next {t : TxS} {w w' : World} (h : t.Now w) (hb : Below w.heap.size w w') : t.Now w' := (TxS.Rd.below h hb (Nat.le_refl _)).up hb.size
def TxS.InN (t : TxS) (w : World) : Prop := ∃ G, G ≤ w.heap.size ∧ t.In G w
theorem TxS.InN.next {t : TxS} {w w' : World} (h : t.InN w) (hb : Below w.heap.size w w') : t.InN w' := by
  obtain ⟨G, hG, h⟩ := h
  exact ⟨G, Nat.le_trans hG hb.size, h.below hb hG⟩
theorem TxS.InN.now {t : TxS} {w : World} (h : t.InN w) (f : t.Fw) : t.Now w := by
  obtain ⟨G, hG, h⟩ := h
  exact (h.rd f).up hG
theorem TxS.InN.len {t : TxS} {w : World} (h : t.InN w) : t.V.length = 75 := by
  obtain ⟨G, hG, h⟩ := h
  exact TxS.V_len h.ho.1 h.hc.1
theorem TxS.Now.len {t : TxS} {w : World} (h : t.Now w) : t.V.length = 75 := TxS.V_len h.ho.1 h.hc.1
theorem TxS.InN.few {t : TxS} {w : World} (h : t.InN w) : Calls Try.prog 28 #[.agg t.V.toArray] w fun e w' => ∃ b : Bool, e = .returned (.bool b) ∧ (b = true → t.Fw) ∧ Below w.heap.size w w' := by
  obtain ⟨G, hG, h⟩ := h
  exact few_any t G w h hG
/-- a transaction's bytes, none if it may not be -/
def txBb (t : TxD) : List Int := if txE t = 0 then txB t else []
theorem TxRet.flat {t : TxD} {w w' : World} {e : Ending} (h : TxRet t w e w') : Below w.heap.size w w' ∧ ∃ A n C, e = .returned (.tuple #[.slice A n C, .int .i64 (txE t)]) ∧ w'.ownsRow w.heap.size 5 1 (.slice A n C) n (bv (txBb t)) := by
  obtain ⟨hb, ⟨h0, rfl⟩ | ⟨h0, A, C, rfl, ho⟩⟩ := h
  · exact ⟨hb, none, 0, 0, rfl, by rw [txBb, if_neg h0]; exact own_none' w' _⟩
  · exact ⟨hb, A, (txB t).length, C, by rw [h0], by rw [txBb, if_pos h0]; exact ho⟩
/-- a transaction laid in a block of its own -/
theorem tx_lay (w : World) (D : List Value) (hl : D.length = 75) (h1 : ∀ v ∈ D, v.oneCell' = true) (Z : Array Value) (hZ : Z.size = 75) :
    Fin w w.heap.size (w.alloc (.cells Z 68)) w.heap.size 68 D ∧ ((w.alloc (.cells Z 68)).setCells w.heap.size 0 D).rangeAt w.heap.size 0 D := lay_new w 68 75 Z D infoTx hZ hl h1
end Go.Proofs.Ytmcmapgllaopmaa.Cd
end

section
namespace Go.Proofs.Ytmcmapgllaopmaa.Cd
open Go.RowKit
set_option linter.unusedVariables false
/-- an object's bytes, none if it may not be -/
def eoB (k : Int) (l : List Int) (L : Nat) : List Int := if ckE k l L = 0 then obB k l L else []
theorem EoRet.flat {k : Int} {l : List Int} {L : Nat} {w w' : World} {e : Ending} (h : EoRet k l L w e w') : Below w.heap.size w w' ∧ ∃ A n C, e = .returned (.tuple #[.slice A n C, .int .i64 (ckE k l L)]) ∧ w'.ownsRow w.heap.size 5 1 (.slice A n C) n (bv (eoB k l L)) := by
  obtain ⟨hb, ⟨h0, rfl⟩ | ⟨h0, A, C, rfl, ho⟩⟩ := h
  · exact ⟨hb, none, 0, 0, rfl, by rw [eoB, if_neg h0]; exact own_none' w' _⟩
  · exact ⟨hb, A, 5 + L, C, by rw [h0], by rw [eoB, if_pos h0]; exact ho⟩
def poB (l : List Int) (L : Nat) : List Int := if poE l L = 0 then l.drop 5 else []
def poKd (l : List Int) (L : Nat) : Int := if poE l L = 0 then poK (l.getD 0 0) else 0
theorem PoRet.flat {l : List Int} {L : Nat} {w w' : World} {e : Ending} (h : PoRet l L w e w') : Below w.heap.size w w' ∧ ∃ A n C, e = .returned (.tuple #[.agg [.int .i64 (poKd l L), .slice A n C].toArray, .int .i64 (poE l L)]) ∧ w'.ownsRow w.heap.size 5 1 (.slice A n C) n (bv (poB l L)) := by
  obtain ⟨hb, ⟨h0, rfl⟩ | ⟨h0, A, C, rfl, ho⟩⟩ := h
  · exact ⟨hb, none, 0, 0, by rw [poKd, if_neg h0]; rfl, by rw [poB, if_neg h0]; exact own_none' w' _⟩
  · exact ⟨hb, A, L - 5, C, by rw [poKd, if_pos h0, h0], by rw [poB, if_pos h0]; exact ho⟩
theorem infoObj : (Try.prog.info? 50).map (·.size) = some 2 := by kernel_rfl
theorem two_one {k : Int} {A : Option Addr} {n C : Nat} : ∀ v ∈ ([.int .i64 k, .slice A n C] : List Value), v.oneCell' = true := by
  intro v hv
  simp only [List.mem_cons, List.not_mem_nil, or_false] at hv
  rcases hv with rfl | rfl <;> rfl
end Go.Proofs.Ytmcmapgllaopmaa.Cd
end

section
namespace Go.Proofs.Ytmcmapgllaopmaa.Cd
open Go.RowKit
set_option linter.unusedVariables false
/-- ParseCommit, in one word -/
theorem PcRet.flat {l : List Int} {L : Nat} {w w' : World} {e : Ending} (h : PcRet l L w e w') : Below w.heap.size w w' ∧ ∃ (tr : List Int) (ids : List (List Int)) (au : ByteArray) (tm : Int) (ms : ByteArray) (A : Option Addr) (C : Nat), tr.length = 32 ∧
    e = .returned (.tuple #[.agg (cm tr (.slice A ids.length C) au tm ms).toArray, .int .i64 (cF7 0 l 0 L)]) ∧ RdIds w' A ids.length C ids ∧ (cF7 0 l 0 L = 0 → tr = cT 0 l 0 L ∧ ids = (cQ 0 l 0 L).2.2 ∧ au = cAu 0 l 0 L ∧ tm = tv (cB 0 l 0 L) ∧ ms = cMs 0 l 0 L) := by
  obtain ⟨hb, ⟨hne, rfl⟩ | ⟨hz, hid, Ai, Ci, rfl, ho⟩⟩ := h
  · exact ⟨hb, List.replicate 32 0, [], ByteArray.empty, 0, ByteArray.empty, none, 0, by simp, rfl, RdIds.nil _, fun h => absurd h hne⟩
  · have h8 : (cQ 0 l 0 L).2.2.length ≤ 8 := pa_len _ _ _ _
    exact ⟨hb, cT 0 l 0 L, _, _, _, _, Ai, Ci, geI_len l L (0, 0), by rw [hz], rdids_of_own ho hid (by omega) rfl, fun _ => ⟨rfl, rfl, rfl, rfl, rfl⟩⟩
theorem ecR_ok {tr : List Int} {ids : List (List Int)} {au ms : ByteArray} {tm : Int} (h : wE tr ids au ms = 0) : ecR tr ids au tm ms = cmB tr ids au tm ms := by unfold ecR; rw [if_pos h]
theorem own_sl {w : World} {B n : Nat} {v : Value} {xs : List Value} {e sz : Nat} (h : w.ownsRow B e sz v n xs) : ∃ A C, v = .slice A n C := own_slice' h
set_option maxRecDepth 100000 in
set_option maxHeartbeats 8000000 in
theorem again_any (A : Option Addr) (L C : Nat) (l : List Int) (w : World) (h : RdB w A L C l) (hL : L ≤ 1000000) :
    Calls Try.prog 38 #[.slice A L C] w fun e w' => e = .returned (.bool true) ∧ Below w.heap.size w w' := by
  have hlen := h.len
  have HBy := Lib.hid h.byte
  have HB := Lib.hid h
  have HBl := Lib.hid (Below.refl w.heap.size w)
  have hz := zeroTx
  have hzc : ∀ w : World, (zeroValue 40).run Try.prog w = .ok (.agg cm0.toArray) w := zeroCm
  have hse := conv_eq (sb l)
  have hZl : cm0.toArray.size = 36 := by rw [List.size_toArray, cm0_len]
  have hZt : tx0.toArray.size = 75 := by rw [List.size_toArray, tx0_len]
  generalize cm0.toArray = ZC at *
  generalize tx0.toArray = ZT at *
  have HZl := Lib.hid hZl
  have HZt := Lib.hid hZt
  clear h hZl hZt
  generalize hSB : sb l = SB at *
  have HSB := Lib.hid hSB
  clear hSB
  go_enter Try.func38, Try.ntmps38
  go_upto_region 1 with (fail)
  have HC := Lib.hid (parseTree_any A L C l w HB.out)
  go_wp2_with fail
  refine HC.out.mono ?_
  intro e w1 hr
  obtain ⟨hb, Ae, Ce, rfl, hE⟩ := pt_one (by omega) hr
  have HE := Lib.hid hE
  clear HC hr hE
  have e_HBl := Lib.hid (HBl.out.trans (hb.mono HBl.out.size))
  have e_HB := Lib.hid (HB.out.below hb)
  clear HBl HB
  have HBl := e_HBl
  have HB := e_HB
  clear e_HBl e_HB
  clear hb
  obtain ⟨FF, hFF⟩ : ∃ FF, FF = (pT l L (L + 1) 0 []).1 := ⟨_, rfl⟩
  have HTa := Lib.hid (fun h0 => tree_again hlen HBy.out h0)
  rw [← hFF] at HTa ⊢
  clear hFF
  generalize (pT l L (L + 1) 0 []).2 = es at *
  go_upto_if 22 with (fail)
  go_cut [] (fun wx => Hid (Below w.heap.size w wx) ∧ Hid (RdB wx A L C l))
  case first =>
    by_cases h0 : FF = 0
    · obtain ⟨t1, t2⟩ := HTa.out h0
      have hd : (FF == 0) = true := by simp [h0]
      have HEz := Lib.hid t1
      have HEb : Hid (eR es = l) := Lib.hid (by unfold eR; rw [if_pos t1, t2])
      clear h0 t1 t2 HTa
      have HC := Lib.hid (encodeTree_any Ae es.length Ce es w1 HE.out)
      go_wp2_with fail
      refine HC.out.mono ?_
      intro e w2 hr
      obtain ⟨hb, v, rfl, ho⟩ := et_one hr
      rw [HEb.out] at ho
      rw [HEz.out]
      have hcv := conv_own' ho
      rw [HSB.out] at hcv
      clear HC hr ho HE
      have e_HBl := Lib.hid (HBl.out.trans (hb.mono HBl.out.size))
      have e_HB := Lib.hid (HB.out.below hb)
      clear HBl HB
      have HBl := e_HBl
      have HB := e_HB
      clear e_HBl e_HB
      clear hb
      have hcb := conv_rd HB.out
      rw [HSB.out] at hcb
      go_wp2_with fail
      go_meet
      exact ⟨HBl, HB⟩
    · have hd : (FF == 0) = false := by simp [h0]
      clear h0 HTa HE
      go_wp2_with fail
      go_meet
      exact ⟨HBl, HB⟩
  case rest =>
    obtain ⟨h1, h2⟩ := hcut
    clear HBl HB HE HTa
    have HBl := h1
    have HB := h2
    clear h1 h2
    have HC := Lib.hid (parseCommit_any A L C l wc HB.out)
    go_upto_region 6 with (fail)
    go_wp2_with fail
    refine HC.out.mono ?_
    intro e w3 hr
    obtain ⟨hb, tr, ids, au, tm, ms, Ac, Cc, htr, rfl, hI, hF⟩ := hr.flat
    have HI := Lib.hid hI
    have HF := Lib.hid hF
    clear HC hr hI hF
    have e_HBl := Lib.hid (HBl.out.trans (hb.mono HBl.out.size))
    have e_HB := Lib.hid (HB.out.below hb)
    clear HBl HB
    have HBl := e_HBl
    have HB := e_HB
    clear e_HBl e_HB
    clear hb
    have hcl := cm_len tr (.slice Ac ids.length Cc) au tm ms htr
    have hco := cm_one tr (.slice Ac ids.length Cc) au tm ms rfl
    obtain ⟨f1, f2⟩ := cm_lay w3 (cm tr (.slice Ac ids.length Cc) au tm ms) hcl hco ZC HZl.out
    have HEn := Lib.hid (fun (W : World) (h : RdIds W Ac ids.length Cc ids) => encodeCommit_any tr htr Ac ids.length Cc ids au tm ms W h)
    have HSz : Hid ((Try.prog.info? 40).map (·.size) = some (cm tr (.slice Ac ids.length Cc) au tm ms).length) := Lib.hid (by rw [hcl]; kernel_rfl)
    have HCl := Lib.hid hcl
    have HFx := Lib.hid f1
    have HGx := Lib.hid f2
    clear f1 f2 hcl hco
    generalize cm tr (.slice Ac ids.length Cc) au tm ms = CM at *
    obtain ⟨FF, hFF⟩ : ∃ FF, FF = cF7 0 l 0 L := ⟨_, rfl⟩
    have HTa := Lib.hid (fun h0 => commit_again hlen HBy.out h0)
    rw [← hFF] at HTa HF ⊢
    clear hFF
    go_upto_region 7 with (refine wpList_store_mid rfl _ _ _ rfl w3.heap.size 0 CM.toArray rfl rfl HFx.out.there HFx.out.size HFx.out.one ?_)
    change Code.wp _ _ _ _ ((w3.alloc (.cells ZC 40)).setCells w3.heap.size 0 CM)
    have hb := HFx.out.bel
    clear HFx
    generalize (w3.alloc (.cells ZC 40)).setCells w3.heap.size 0 CM = w4 at *
    have e_HBl := Lib.hid (HBl.out.trans (hb.mono HBl.out.size))
    have e_HB := Lib.hid (HB.out.below hb)
    have e_HI := Lib.hid (HI.out.below hb)
    clear HBl HB HI
    have HBl := e_HBl
    have HB := e_HB
    have HI := e_HI
    clear e_HBl e_HB e_HI
    clear hb
    generalize w3.heap.size = PC at *
    go_upto_if 43 with (fail)
    go_cut [] (fun wx => Hid (Below w.heap.size w wx) ∧ Hid (RdB wx A L C l))
    case first =>
      by_cases h0 : FF = 0
      · obtain ⟨t1, t2⟩ := HTa.out h0
        obtain ⟨u1, u2, u3, u4, u5⟩ := HF.out h0
        rw [← u1, ← u2, ← u3, ← u5] at t1
        rw [← u1, ← u2, ← u3, ← u4, ← u5] at t2
        have hd : (FF == 0) = true := by simp [h0]
        have HEz := Lib.hid t1
        have HEb : Hid (ecR tr ids au tm ms = l) := Lib.hid (by rw [ecR_ok t1, t2])
        clear h0 t1 t2 u1 u2 u3 u4 u5 HTa HF
        have HC := Lib.hid (HEn.out w4 HI.out)
        go_wp2_with (refine wpList_load_mid rfl _ _ rfl PC 0 rfl CM _ HGx.out Try.underlying40 rfl HSz.out ?_)
        refine HC.out.mono ?_
        intro e w5 hr
        obtain ⟨hb, v, rfl, ho⟩ := hr
        rw [HEb.out] at ho
        rw [HEz.out]
        have hcv := conv_own' ho
        rw [HSB.out] at hcv
        clear HC ho HGx HEn
        clear HI
        have e_HBl := Lib.hid (HBl.out.trans (hb.mono HBl.out.size))
        have e_HB := Lib.hid (HB.out.below hb)
        clear HBl HB
        have HBl := e_HBl
        have HB := e_HB
        clear e_HBl e_HB
        clear hb
        have hcb := conv_rd HB.out
        rw [HSB.out] at hcb
        go_wp2_with fail
        go_meet
        exact ⟨HBl, HB⟩
      · have hd : (FF == 0) = false := by simp [h0]
        clear h0 HTa HI HF HEn HGx
        go_wp2_with fail
        go_meet
        exact ⟨HBl, HB⟩
    case rest =>
      obtain ⟨h1, h2⟩ := hcut
      clear HBl HB HI HTa HF HEn HGx HSz HCl
      have HBl := h1
      have HB := h2
      clear h1 h2
      have HC := Lib.hid (parseTx_any A L C l wc HB.out)
      go_upto_region 11 with (fail)
      go_wp2_with fail
      refine HC.out.mono ?_
      intro e w6 hr
      obtain ⟨hb, P, rfl, hPo, hPr, hPp⟩ := hr.flat hlen HBy.out (by omega)
      have HP : Hid (P.Now w6) := Lib.hid hPr
      have HTa := Lib.hid (fun h0 => tx_again hlen HBy.out P hPp ⟨_, _, hPr⟩ h0)
      clear HC hr hPo hPr hPp
      have e_HBl := Lib.hid (HBl.out.trans (hb.mono HBl.out.size))
      have e_HB := Lib.hid (HB.out.below hb)
      clear HBl HB
      have HBl := e_HBl
      have HB := e_HB
      clear e_HBl e_HB
      clear hb
      have hlp := HP.out.len
      obtain ⟨f1, f2⟩ := tx_lay w6 P.V hlp P.V_one ZT HZt.out
      have HEn := Lib.hid (fun (W : World) (h : P.Now W) => TxS.encode h (Nat.le_refl _))
      have HSz : Hid ((Try.prog.info? 68).map (·.size) = some P.V.length) := Lib.hid (by rw [hlp]; exact infoTx)
      have HFx := Lib.hid f1
      have HGx := Lib.hid f2
      clear f1 f2 hlp
      generalize P.V = CM at *
      obtain ⟨FF, hFF⟩ : ∃ FF, FF = xF l L := ⟨_, rfl⟩
      rw [← hFF] at HTa ⊢
      clear hFF
      go_upto_region 12 with (refine wpList_store_mid rfl _ _ _ rfl w6.heap.size 0 CM.toArray rfl rfl HFx.out.there HFx.out.size HFx.out.one ?_)
      change Code.wp _ _ _ _ ((w6.alloc (.cells ZT 68)).setCells w6.heap.size 0 CM)
      have hb := HFx.out.bel
      clear HFx
      generalize (w6.alloc (.cells ZT 68)).setCells w6.heap.size 0 CM = w7 at *
      have e_HBl := Lib.hid (HBl.out.trans (hb.mono HBl.out.size))
      have e_HB := Lib.hid (HB.out.below hb)
      have e_HP := Lib.hid (HP.out.next hb)
      clear HBl HB HP
      have HBl := e_HBl
      have HB := e_HB
      have HP := e_HP
      clear e_HBl e_HB e_HP
      clear hb
      generalize w6.heap.size = PX at *
      go_upto_if 64 with (fail)
      go_cut [] (fun wx => Hid (Below w.heap.size w wx) ∧ Hid (RdB wx A L C l))
      case first =>
        by_cases h0 : FF = 0
        · obtain ⟨t1, t2⟩ := HTa.out h0
          have hd : (FF == 0) = true := by simp [h0]
          have HEz := Lib.hid t1
          have HEb : Hid (txBb P.D = l) := Lib.hid (by unfold txBb; rw [if_pos t1, t2])
          clear h0 t1 t2 HTa
          have HC := Lib.hid (HEn.out w7 HP.out)
          go_wp2_with (refine wpList_load_mid rfl _ _ rfl PX 0 rfl CM _ HGx.out Try.underlying68 rfl HSz.out ?_)
          refine HC.out.mono ?_
          intro e w8 hr
          obtain ⟨hb, Ax, nx, Cx, rfl, ho⟩ := hr.flat
          rw [HEb.out] at ho
          rw [HEz.out]
          have hcv := conv_own' ho
          rw [HSB.out] at hcv
          clear HC hr ho HGx HEn
          clear HP
          have e_HBl := Lib.hid (HBl.out.trans (hb.mono HBl.out.size))
          have e_HB := Lib.hid (HB.out.below hb)
          clear HBl HB
          have HBl := e_HBl
          have HB := e_HB
          clear e_HBl e_HB
          clear hb
          have hcb := conv_rd HB.out
          rw [HSB.out] at hcb
          go_wp2_with fail
          go_meet
          exact ⟨HBl, HB⟩
        · have hd : (FF == 0) = false := by simp [h0]
          clear h0 HTa HP HEn HGx
          go_wp2_with fail
          go_meet
          exact ⟨HBl, HB⟩
      case rest =>
        obtain ⟨h1, h2⟩ := hcut
        clear HBl HB HP HTa HEn HGx HSz
        have HBl := h1
        have HB := h2
        clear h1 h2
        have HC := Lib.hid (parseObj_any A L C l wc HB.out (by omega))
        go_upto_region 16 with (fail)
        go_wp2_with fail
        refine HC.out.mono ?_
        intro e w9 hr
        obtain ⟨hb, Ao, no, Co, rfl, ho⟩ := hr.flat
        have HO := Lib.hid ho
        clear HC hr ho
        have e_HBl := Lib.hid (HBl.out.trans (hb.mono HBl.out.size))
        have e_HB := Lib.hid (HB.out.below hb)
        clear HBl HB
        have HBl := e_HBl
        have HB := e_HB
        clear e_HBl e_HB
        clear hb
        have hon : (poB l L).length = no := by have := HO.out.1; simpa [bv] using this
        have hnL : no ≤ L := by
          rw [← hon]
          unfold poB
          split
          · rw [List.length_drop]; omega
          · simp
        have HOb : Hid (∀ i, i < no → 0 ≤ (poB l L).getD i 0 ∧ (poB l L).getD i 0 ≤ 255) := Lib.hid (fun i hi => by
          have h1 := hon
          unfold poB at h1 ⊢
          split
          · rename_i h2
            rw [if_pos h2, List.length_drop] at h1
            have := HBy.out (5 + i) (by omega)
            simpa [List.getD, Nat.add_comm] using this
          · rename_i h2
            rw [if_neg h2] at h1
            simp at h1; omega)
        obtain ⟨f1, f2⟩ := lay_new w9 50 2 #[.int .i64 0, .slice none 0 0] [.int .i64 (poKd l L), .slice Ao no Co] infoObj rfl rfl two_one
        have HFx := Lib.hid f1
        have HGx := Lib.hid f2
        have HSz : Hid ((Try.prog.info? 50).map (·.size) = some ([.int .i64 (poKd l L), .slice Ao no Co] : List Value).length) := Lib.hid infoObj
        clear f1 f2
        have HTa := Lib.hid (fun h0 => obj_again hlen HBy.out h0)
        have HKd : Hid (poE l L = 0 → poKd l L = poK (l.getD 0 0) ∧ poB l L = l.drop 5 ∧ no = L - 5) := Lib.hid (fun h0 => by
          have e2 : poB l L = l.drop 5 := by unfold poB; rw [if_pos h0]
          refine ⟨by unfold poKd; rw [if_pos h0], e2, ?_⟩
          rw [← hon, e2, List.length_drop]; omega)
        have HEn := Lib.hid (fun (W : World) (h : RdB W Ao no Co (poB l L)) => encodeObj_any (poKd l L) Ao no Co (poB l L) W h (by omega))
        obtain ⟨FF, hFF⟩ : ∃ FF, FF = poE l L := ⟨_, rfl⟩
        rw [← hFF] at HTa HKd ⊢
        clear hFF hon
        generalize hCM : ([.int .i64 (poKd l L), .slice Ao no Co] : List Value) = CM at *
        clear hCM
        go_upto_region 17 with (refine wpList_store_mid rfl _ _ _ rfl w9.heap.size 0 CM.toArray rfl rfl HFx.out.there HFx.out.size HFx.out.one ?_)
        change Code.wp _ _ _ _ ((w9.alloc (.cells #[.int .i64 0, .slice none 0 0] 50)).setCells w9.heap.size 0 CM)
        have hb := HFx.out.bel
        clear HFx
        generalize (w9.alloc (.cells #[.int .i64 0, .slice none 0 0] 50)).setCells w9.heap.size 0 CM = wX at *
        have e_HBl := Lib.hid (HBl.out.trans (hb.mono HBl.out.size))
        have e_HB := Lib.hid (HB.out.below hb)
        have e_HO := Lib.hid (own_keep HO.out hb)
        clear HBl HB HO
        have HBl := e_HBl
        have HB := e_HB
        have HO := e_HO
        clear e_HBl e_HB e_HO
        clear hb
        generalize w9.heap.size = PO at *
        by_cases h0 : FF = 0
        · obtain ⟨t1, t2⟩ := HTa.out h0
          obtain ⟨u1, u2, u3⟩ := HKd.out h0
          have hd : (FF == 0) = true := by simp [h0]
          have hck : ckE (poKd l L) (poB l L) no = 0 := by rw [u1, u2, u3]; exact t1
          have HEz := Lib.hid hck
          have HEb : Hid (eoB (poKd l L) (poB l L) no = l) := Lib.hid (by unfold eoB; rw [if_pos hck, u1, u2, u3, t2])
          clear h0 t1 t2 u1 u2 u3 hck HTa HKd
          have HC := Lib.hid (HEn.out wX (RdB.of_own2 HO.out (by omega) HOb.out))
          go_wp2_with (refine wpList_load_mid rfl _ _ rfl PO 0 rfl CM _ HGx.out Try.underlying50 rfl HSz.out ?_)
          refine HC.out.mono ?_
          intro e wY hr
          obtain ⟨hb, Ax, nx, Cx, rfl, ho⟩ := hr.flat
          rw [HEb.out] at ho
          rw [HEz.out]
          have hcv := conv_own' ho
          rw [HSB.out] at hcv
          clear HC hr ho HGx HEn HO
          have e_HBl := Lib.hid (HBl.out.trans (hb.mono HBl.out.size))
          have e_HB := Lib.hid (HB.out.below hb)
          clear HBl HB
          have HBl := e_HBl
          have HB := e_HB
          clear e_HBl e_HB
          clear hb
          have hcb := conv_rd HB.out
          rw [HSB.out] at hcb
          go_wp2_with fail
          go_ret
          exact ⟨rfl, HBl.out⟩
        · have hd : (FF == 0) = false := by simp [h0]
          clear h0 HTa HKd HEn HGx HO
          go_wp2_with fail
          go_ret
          exact ⟨rfl, HBl.out⟩
end Go.Proofs.Ytmcmapgllaopmaa.Cd
end

section
namespace Go.Proofs.Ytmcmapgllaopmaa.Cd
open Go.RowKit
set_option linter.unusedVariables false
def By (l : List Int) : Prop := ∀ x ∈ l, 0 ≤ x ∧ x ≤ 255
theorem By.app {a b : List Int} (h : By a) (k : By b) : By (a ++ b) := fun x hx => by
  rcases List.mem_append.1 hx with hx | hx
  · exact h x hx
  · exact k x hx
theorem By.cons {a : Int} {b : List Int} (h0 : 0 ≤ a) (h1 : a ≤ 255) (k : By b) : By (a :: b) := fun x hx => by
  rcases List.mem_cons.1 hx with rfl | hx
  · exact ⟨h0, h1⟩
  · exact k x hx
theorem By.nil : By [] := fun x hx => absurd hx (by simp)
theorem be_by : ∀ (k : Nat) (v : Int), By (be k v)
  | 0, _ => By.nil
  | k + 1, v => By.cons (by omega) (by omega) (be_by k v)
theorem sv_by (s : ByteArray) : By (sv s) := fun x hx => by
  unfold sv at hx
  obtain ⟨b, -, rfl⟩ := List.mem_map.1 hx
  have := b.toNat_lt
  omega
theorem id_by {q : List Int} (h : IdOk q) : By q := fun x hx => by
  obtain ⟨i, hi, rfl⟩ := List.getElem_of_mem hx
  have := h.2 i (by have := h.1; omega)
  simpa [List.getD, hi] using this
theorem By.getD {l : List Int} {n : Nat} (h : By l) (hn : n ≤ l.length) : ∀ i, i < n → 0 ≤ l.getD i 0 ∧ l.getD i 0 ≤ 255 := fun i hi => byte_getD h i (by omega)
theorem eF_all : ∀ (es : List Fr.Ent) (prev : Option ByteArray), eF es prev = 0 → ∀ x ∈ es, 1 ≤ x.kind ∧ x.kind ≤ 4 ∧ NmOk x.name
  | [], _, _, x, hx => absurd hx (by simp)
  | y :: es, prev, h, x, hx => by
    rw [eF] at h
    have hc : ce y.kind y.name y.id prev = 0 := by
      split at h
      · assumption
      · exact h
    rw [if_pos hc] at h
    rcases List.mem_cons.1 hx with rfl | hx
    · exact ce_zero hc
    · exact eF_all es _ h x hx
theorem eB_by : ∀ (es : List Fr.Ent), (∀ x ∈ es, IdOk x.id ∧ 1 ≤ x.kind ∧ x.kind ≤ 4 ∧ NmOk x.name) → By (eB es) ∧ (eB es).length ≤ 74 * es.length
  | [], _ => ⟨By.nil, Nat.le_refl _⟩
  | y :: es, h => by
    have e : eB (y :: es) = eB1 y ++ eB es := rfl
    obtain ⟨h1, h2⟩ := eB_by es (fun z hz => h z (List.mem_cons_of_mem _ hz))
    obtain ⟨a, b, c, d⟩ := h y (List.mem_cons_self ..)
    have hs := d.size
    have hl : (eB1 y).length ≤ 74 := by simp [eB1, sv_len, a.1]; omega
    rw [e]
    refine ⟨By.app (By.cons (by omega) (by omega) (By.cons (by omega) (by omega) (By.app (sv_by _) (id_by a)))) h1, ?_⟩
    rw [List.length_append, List.length_cons]; omega
theorem flat_by : ∀ (ids : List (List Int)), (∀ x ∈ ids, IdOk x) → By ids.flatten
  | [], _ => By.nil
  | y :: ids, h => by
    rw [List.flatten_cons]
    exact By.app (id_by (h y (List.mem_cons_self ..))) (flat_by ids (fun z hz => h z (List.mem_cons_of_mem _ hz)))
theorem cmB_by {tr : List Int} {ids : List (List Int)} {au ms : ByteArray} {tm : Int} (ht : IdOk tr) (hi : ∀ x ∈ ids, IdOk x) (h8 : ids.length ≤ 8) : By (cmB tr ids au tm ms) := by
  rw [cmB_form _ _ _ _ _ h8]
  exact By.app (id_by ht) (By.app (be_by _ _) (By.app (flat_by ids hi) (By.app (By.app (be_by _ _) (sv_by _)) (By.app (be_by _ _) (By.app (be_by _ _) (sv_by _))))))
theorem mvBs_by : ∀ (ms : List Mv), (∀ m ∈ ms, IdOk m.od ∧ IdOk m.nw) → By (mvBs ms)
  | [], _ => By.nil
  | m :: ms, h => by
    have e : mvBs (m :: ms) = mvB m ++ mvBs ms := rfl
    rw [e]
    obtain ⟨a, b⟩ := h m (List.mem_cons_self ..)
    exact By.app (By.app (By.app (By.app (By.app (be_by _ _) (sv_by _)) (id_by a)) (id_by b)) (By.app (be_by _ _) (sv_by _))) (mvBs_by ms (fun z hz => h z (List.mem_cons_of_mem _ hz)))
theorem tdBs_by : ∀ (ts : List Td), (∀ t ∈ ts, IdOk t.id ∧ 0 ≤ t.dd ∧ t.dd ≤ 255) → By (tdBs ts)
  | [], _ => By.nil
  | t :: ts, h => by
    have e : tdBs (t :: ts) = (t.dd :: t.id) ++ tdBs ts := rfl
    rw [e]
    obtain ⟨a, b, c⟩ := h t (List.mem_cons_self ..)
    exact By.app (By.cons b c (id_by a)) (tdBs_by ts (fun z hz => h z (List.mem_cons_of_mem _ hz)))
theorem myBs_by : ∀ (ys : List My), (∀ y ∈ ys, IdOk y.key ∧ By y.l) → By (myBs ys)
  | [], _ => By.nil
  | y :: ys, h => by
    have e : myBs (y :: ys) = myB y ++ myBs ys := rfl
    rw [e]
    obtain ⟨a, b⟩ := h y (List.mem_cons_self ..)
    exact By.app (By.app (By.app (id_by a) (be_by _ _)) b) (myBs_by ys (fun z hz => h z (List.mem_cons_of_mem _ hz)))
theorem txB_by {t : TxS} {G : Nat} {w : World} (hr : t.Rd G w) (h0 : txE t.D = 0) : By (txB t.D) := by
  obtain ⟨a1, a2, a3, a4, a5, a6⟩ := txE_ok ⟨_, _, hr⟩ h0
  have hfg : 0 ≤ fgB t.hh t.hs ∧ fgB t.hh t.hs ≤ 3 := by unfold fgB; cases t.hh <;> cases t.hs <;> decide
  have hy : ∀ y ∈ t.ys, IdOk y.key ∧ By y.l := fun y hy => ⟨hr.hYi y hy, fun x hx => by
    have h5 := (hr.hY.ok y hy).2.2.rd
    obtain ⟨i, hi, rfl⟩ := List.getElem_of_mem hx
    have := h5.byte i (by have := h5.len; omega)
    simpa [List.getD, hi] using this⟩
  have hs : By (t.D.sq.ask t.D.hs).bytes := by
    have hi : IdOk (t.D.sq.ask t.D.hs).og ∧ IdOk (t.D.sq.ask t.D.hs).cu ∧ ∀ x ∈ (t.D.sq.ask t.D.hs).ts, IdOk x.id := by
      unfold SqD.ask
      split
      · exact ⟨hr.ho, hr.hc, hr.hTi⟩
      · exact ⟨idZ_ok, idZ_ok, fun x hx => absurd hx (by simp [SqD.zero])⟩
    unfold SqD.bytes sqBs
    refine By.cons a6.k0 a6.k1 ?_
    split
    · exact By.nil
    · exact By.app (By.app (By.app (By.app (By.app (By.app (be_by _ _) (sv_by _)) (id_by hi.1)) (id_by hi.2.1)) (be_by _ _)) (tdBs_by _ (fun x hx => ⟨hi.2.2 x hx, (a6.ts x hx).2⟩))) (By.app (By.app (be_by _ _) (be_by _ _)) (By.cons (by split <;> decide) (by split <;> decide) By.nil))
  have e : txB t.D = fgB t.hh t.hs :: ((if t.hh = true then be 1 (t.hd.size : Int) ++ sv t.hd else []) ++ be 2 (t.ms.length : Int) ++ mvBs t.ms ++ (if t.hs = true then (t.D.sq.ask t.D.hs).bytes else []) ++ be 2 (t.ys.length : Int) ++ myBs t.ys) := rfl
  rw [e]
  refine By.cons hfg.1 (by omega) (By.app (By.app (By.app (By.app (By.app ?_ (be_by _ _)) (mvBs_by _ hr.hMi)) ?_) (be_by _ _)) (myBs_by _ hy))
  · split
    · exact By.app (be_by _ _) (sv_by _)
    · exact By.nil
  · split
    · exact hs
    · exact By.nil
theorem mvBs_le : ∀ (ms : List Mv) (B : Nat), (∀ m ∈ ms, MvF m ∧ m.nm.size + m.wy.size ≤ B) → (mvBs ms).length ≤ ms.length * (B + 67)
  | [], B, _ => Nat.zero_le _
  | m :: ms, B, h => by
    have e : mvBs (m :: ms) = mvB m ++ mvBs ms := rfl
    obtain ⟨a, b⟩ := h m (List.mem_cons_self ..)
    have h2 := mvBs_le ms B (fun z hz => h z (List.mem_cons_of_mem _ hz))
    have h3 := mvB_len a
    rw [e, List.length_append, List.length_cons, Nat.add_mul]
    omega
theorem myBs_le : ∀ (ys : List My) (B : Nat), (∀ y ∈ ys, MyF y ∧ y.n ≤ B) → (myBs ys).length ≤ ys.length * (B + 36)
  | [], B, _ => Nat.zero_le _
  | y :: ys, B, h => by
    have e : myBs (y :: ys) = myB y ++ myBs ys := rfl
    obtain ⟨a, b⟩ := h y (List.mem_cons_self ..)
    have h2 := myBs_le ys B (fun z hz => h z (List.mem_cons_of_mem _ hz))
    have h3 : (myB y).length = 36 + y.n := by simp [myB, be_length, a.key, a.len]; omega
    rw [e, List.length_append, List.length_cons, Nat.add_mul]
    omega
theorem txB_le {t : TxS} {G : Nat} {w : World} (hr : t.Rd G w) (f : t.Fw) (h0 : txE t.D = 0) : (txB t.D).length ≤ 100000000 := by
  obtain ⟨a1, a2, a3, a4, a5, a6⟩ := txE_ok ⟨_, _, hr⟩ h0
  have hn : t.ms.length = t.n := by have := hr.hM.rd.len; simpa using this
  have hm : t.ys.length = t.m := by have := hr.hY.rd.len; simpa using this
  have h1 := mvBs_le t.ms 80000 (fun m hm => ⟨a2 m hm, by have := f.ms m hm; omega⟩)
  have h2 := myBs_le t.ys 80000 (fun y hy => ⟨a4 y hy, by have := f.ys y hy; omega⟩)
  have h3 : t.ms.length * (80000 + 67) ≤ 100 * (80000 + 67) := Nat.mul_le_mul_right _ (by have := f.n; omega)
  have h4 : t.ys.length * (80000 + 36) ≤ 100 * (80000 + 36) := Nat.mul_le_mul_right _ (by have := f.m; omega)
  have h5 : (t.D.sq.ask t.D.hs).bytes.length ≤ 3000000 := by
    unfold SqD.bytes sqBs
    split
    · simp
    · have := a6.n
      have := a6.br
      simp [sqH, sqT, be_length, sv_len, a6.og, a6.cu, tdBs_len _ (fun t ht => (a6.ts t ht).1)]
      omega
  have e : txB t.D = fgB t.hh t.hs :: ((if t.hh = true then be 1 (t.hd.size : Int) ++ sv t.hd else []) ++ be 2 (t.ms.length : Int) ++ mvBs t.ms ++ (if t.hs = true then (t.D.sq.ask t.D.hs).bytes else []) ++ be 2 (t.ys.length : Int) ++ myBs t.ys) := rfl
  have h6 : (if t.hh = true then be 1 (t.hd.size : Int) ++ sv t.hd else []).length ≤ 100000 := by
    have := f.s
    split
    · simp [be_length, sv_len]; omega
    · simp
  have h7 : (if t.hs = true then (t.D.sq.ask t.D.hs).bytes else []).length ≤ 3000000 := by
    split
    · exact h5
    · simp
  rw [e]
  simp only [List.length_cons, List.length_append, be_length]
  omega
/-- what was asked is the same -/
theorem sxEq_ask {P t : TxS} (h : P.pl = ⟨t.hh, akH t.hh t.hd, t.ms, t.hs, (t.D.sq.ask t.D.hs), t.ys.map My.pl⟩) : sxEq P.D t.D = true := by
  simp only [TxS.pl, TxP.mk.injEq] at h
  obtain ⟨h1, h2, h3, h4, h5, h6⟩ := h
  have e1 : P.D.hh = t.D.hh := h1
  have e2 : P.D.hd = akH t.D.hh t.D.hd := h2
  have e3 : P.D.ms = t.D.ms := h3
  have e4 : P.D.hs = t.D.hs := h4
  have e5 : P.D.sq = t.D.sq.ask t.D.hs := h5
  have e6 : eqL myEq P.D.ys t.D.ys = true := eqL_my h6
  have e7 : akH t.D.hh (akH t.D.hh t.D.hd) = akH t.D.hh t.D.hd := by unfold akH; split <;> rfl
  have e8 : (t.D.sq.ask t.D.hs).ask t.D.hs = t.D.sq.ask t.D.hs := by
    unfold SqD.ask
    split
    · first | rfl | (rename_i h; rw [if_pos h])
    · first | rfl | (split <;> rfl)
  unfold sxEq
  rw [e1, e2, e3, e4, e5, e6, e7, e8, eqL_refl mvEq_refl, sqEq_refl]
  simp [sEq]
set_option maxRecDepth 100000 in
set_option maxHeartbeats 8000000 in
theorem walk_back (w : World) (a0 : Option Addr) (len0 cap0 : Nat) (e0 : List Fr.Ent) (w0 : Fr.IsEnts w a0 len0 cap0 e0) (t1 : List Int) (x1 : Fr.IsId t1) (a1 : Option Addr) (len1 cap1 : Nat) (i1 : List (List Int)) (w1 : Fr.IsIds w a1 len1 cap1 i1) (u1 : ByteArray) (y1 : u1.size ≤ 140737488351232) (m1 : Int) (q1 : (Lit.int .i64 m1).wf = true) (g1 : ByteArray) (z1 : g1.size ≤ 140737488351232) (t : TxS) (h2 : t.InN w) (a3 : Option Addr) (len3 cap3 : Nat) (z3 : List Int) (w3 : RdB w a3 len3 cap3 z3) :
    Calls Try.prog 8 #[.slice a0 len0 cap0, .agg (cm t1 (.slice a1 len1 cap1) u1 m1 g1).toArray, .agg t.V.toArray, .slice a3 len3 cap3] w fun e w' => e = .returned (.bool true) ∧ Below w.heap.size w w' := by
  have hl1 : t1.length = 32 := x1.1
  have hlt := h2.len
  have hb0 := (Below.refl w.heap.size w).alloc (Nat.le_refl _) (.cells (cm t1 (.slice a1 len1 cap1) u1 m1 g1).toArray 40)
  have hb1 := hb0.alloc hb0.size (.cells t.V.toArray 68)
  have hX0 := cm_row w t1 (.slice a1 len1 cap1) u1 m1 g1 hl1
  have hrt := row_range (row_newL (w.alloc (.cells (cm t1 (.slice a1 len1 cap1) u1 m1 g1).toArray 40)) t.V 68 75 hlt) hlt
  have hs1 : (w.alloc (.cells (cm t1 (.slice a1 len1 cap1) u1 m1 g1).toArray 40)).heap.size = w.heap.size + 1 := size_alloc _ _
  have hb01 := (Below.refl (w.alloc (.cells (cm t1 (.slice a1 len1 cap1) u1 m1 g1).toArray 40)).heap.size (w.alloc (.cells (cm t1 (.slice a1 len1 cap1) u1 m1 g1).toArray 40))).alloc (Nat.le_refl _) (.cells t.V.toArray 68)
  have HX := Lib.hid (hX0.of_block (hb01.block _ hX0.lt))
  have HPT := Lib.hid hrt
  rw [hs1] at HPT
  have HBl := Lib.hid hb1
  have HB := Lib.hid (w3.below hb1)
  have HT := Lib.hid (h2.next hb1)
  have HI0 := Lib.hid w0
  have HI1 := Lib.hid w1
  have HX1 := Lib.hid (idOk_of x1)
  have hq1 : -9223372036854775808 ≤ m1 ∧ m1 ≤ 9223372036854775807 := by
    have e1 : IntKind.i64.min = -9223372036854775808 := rfl
    have e2 : IntKind.i64.max = 9223372036854775807 := rfl
    simp only [Lit.wf, Bool.and_eq_true, decide_eq_true_eq] at q1
    omega
  have HQ1 := Lib.hid hq1
  have HK := Lib.hid (known_any ((w.alloc (.cells (cm t1 (.slice a1 len1 cap1) u1 m1 g1).toArray 40)).alloc (.cells t.V.toArray 68)))
  have HF1 := Lib.hid (fun (W : World) (h : t.InN W) => h.few)
  have HE1 := Lib.hid (fun (W : World) (h : t.Now W) => TxS.encode h (Nat.le_refl _))
  have HS1 := Lib.hid (fun (W : World) (P : TxS) (h : P.Now W) (k : t.Now W) => TxS.same h k (Nat.le_refl _))
  have HSz1 : Hid ((Try.prog.info? 68).map (·.size) = some t.V.length) := Lib.hid (by rw [hlt]; exact infoTx)
  have HLt := Lib.hid hlt
  have HEc := Lib.hid (fun (W : World) h => encodeCommit_any t1 hl1 a1 len1 cap1 i1 u1 m1 g1 W h)
  have HSc := Lib.hid (fun (W : World) A C h h' => smC_any t1 hl1 A len1 C a1 cap1 i1 u1 m1 g1 W h h')
  have HSz2 : Hid ((Try.prog.info? 40).map (·.size) = some (cm t1 (.slice a1 len1 cap1) u1 m1 g1).length) := Lib.hid (by rw [cm_len _ _ _ _ _ hl1]; kernel_rfl)
  have HRg := Lib.hid (fun (W : World) (X : Nat) (h : W.rowIs X 40 36 (cmF t1 (.slice a1 len1 cap1) u1 m1 g1)) => cm_range h hl1)
  have hlen3 := w3.len
  have hbig3 := w3.big
  have hz := zeroTx
  have hzc : ∀ w : World, (zeroValue 40).run Try.prog w = .ok (.agg cm0.toArray) w := zeroCm
  have hZl : cm0.toArray.size = 36 := by rw [List.size_toArray, cm0_len]
  have hZt : tx0.toArray.size = 75 := by rw [List.size_toArray, tx0_len]
  generalize cm0.toArray = ZC at *
  generalize tx0.toArray = ZT at *
  have HZl := Lib.hid hZl
  have HZt := Lib.hid hZt
  clear hZl hZt hlt hb0 hb1 hX0 hrt hs1 hb01 h2 w0 w1 w3 x1 q1 hq1
  generalize t.V = DT at *
  generalize hCM : cm t1 (.slice a1 len1 cap1) u1 m1 g1 = CM at *
  have HCM := Lib.hid hCM
  clear hCM
  go_enter Try.func8, Try.ntmps8
  have hag1 : (Value.agg CM.toArray).cells = CM.toArray := rfl
  have hag2 : (Value.agg DT.toArray).cells = DT.toArray := rfl
  go_upto_region 1 with (fail)
  clear hag1 hag2
  generalize (w.alloc (.cells CM.toArray 40)).alloc (.cells DT.toArray 68) = wA at *
  obtain ⟨PT, hPT⟩ : ∃ PT, PT = w.heap.size + 1 := ⟨_, rfl⟩
  rw [← hPT] at HPT ⊢
  obtain ⟨PC, hPC⟩ : ∃ PC, PC = w.heap.size := ⟨_, rfl⟩
  rw [← hPC] at HX ⊢
  have HPC := Lib.hid hPC
  clear hPT hPC
  go_wp2_with fail
  refine HK.out.mono ?_
  rintro e w2 ⟨rfl, hb⟩
  rw [HPC.out]
  clear HK
  have e_HBl := Lib.hid (HBl.out.trans (hb.mono HBl.out.size))
  have e_HX := Lib.hid (World.rowIs.of_block HX.out (hb.block _ HX.out.lt))
  have e_HPT := Lib.hid (range_below hb HPT.out (HPT.out.lt_of (by rw [HLt.out]; decide)))
  have e_HT := Lib.hid (HT.out.next hb)
  have e_HB := Lib.hid (HB.out.below hb)
  clear HBl HX HPT HT HB
  have HBl := e_HBl
  have HX := e_HX
  have HPT := e_HPT
  have HT := e_HT
  have HB := e_HB
  clear e_HBl e_HX e_HPT e_HT e_HB
  clear hb
  have hc32 : w2.cell? ⟨w.heap.size, 32, none⟩ = some (.slice a1 len1 cap1) := by rw [← HPC.out]; exact HX.out.cell (i := 32) (by omega)
  have hc33 : w2.cell? ⟨w.heap.size, 33, none⟩ = some (.string u1) := by rw [← HPC.out]; exact HX.out.cell (i := 33) (by omega)
  have hc35 : w2.cell? ⟨w.heap.size, 35, none⟩ = some (.string g1) := by rw [← HPC.out]; exact HX.out.cell (i := 35) (by omega)
  have hsum : IntKind.i64.wrap ((u1.size : Int) + (g1.size : Int)) = (u1.size : Int) + (g1.size : Int) := IntWalk.i64_in _ (by omega)
  rw [← HPC.out]
  rw [← HPC.out] at hc32 hc33 hc35
  by_cases ga : 700 < len0
  · have hdga : decide ((700 : Int) < (len0 : Int)) = true := by simp; omega
    go_wp2_with fail
    go_ret
    exact ⟨by rfl, HBl.out⟩
  have hdga : decide ((700 : Int) < (len0 : Int)) = false := by simp; omega
  by_cases gb : 50 < len1
  · have hdgb : decide ((50 : Int) < (len1 : Int)) = true := by simp; omega
    go_wp2_with fail
    go_ret
    exact ⟨by rfl, HBl.out⟩
  have hdgb : decide ((50 : Int) < (len1 : Int)) = false := by simp; omega
  by_cases gc : 5000 < u1.size + g1.size
  · have hdgc : decide ((5000 : Int) < (u1.size : Int) + (g1.size : Int)) = true := by simp; omega
    go_wp2_with fail
    go_ret
    exact ⟨by rfl, HBl.out⟩
  have hdgc : decide ((5000 : Int) < (u1.size : Int) + (g1.size : Int)) = false := by simp; omega
  have HC := Lib.hid (HF1.out w2 HT.out)
  go_wp2_with (refine wpList_load_g (by rfl) _ _ rfl PT 0 rfl DT _ HPT.out Try.underlying68 rfl HSz1.out ?_)
  refine HC.out.mono ?_
  rintro e w4 ⟨b1, rfl, hf1, hb⟩
  have HFw := Lib.hid hf1
  clear HC hf1 HF1 hc32 hc33 hc35 hsum
  have e_HBl := Lib.hid (HBl.out.trans (hb.mono HBl.out.size))
  have e_HX := Lib.hid (World.rowIs.of_block HX.out (hb.block _ HX.out.lt))
  have e_HPT := Lib.hid (range_below hb HPT.out (HPT.out.lt_of (by rw [HLt.out]; decide)))
  have e_HT := Lib.hid (HT.out.next hb)
  have e_HB := Lib.hid (HB.out.below hb)
  clear HBl HX HPT HT HB
  have HBl := e_HBl
  have HX := e_HX
  have HPT := e_HPT
  have HT := e_HT
  have HB := e_HB
  clear e_HBl e_HX e_HPT e_HT e_HB
  clear hb
  cases b1
  · go_wp2_with fail
    go_ret
    exact ⟨by rfl, HBl.out⟩
  have HFw2 := Lib.hid (HFw.out (by first | rfl | trivial))
  clear HFw
  by_cases gd : 16384 < len3
  · have hdgd : decide ((16384 : Int) < (len3 : Int)) = true := by simp; omega
    go_wp2_with fail
    go_ret
    exact ⟨by rfl, HBl.out⟩
  have hdgd : decide ((16384 : Int) < (len3 : Int)) = false := by simp; omega
  have eT := Lib.hid (HT.out.now HFw2.out)
  clear HT
  have HT := eT
  clear eT
  have HE0 := Lib.hid (RdE.of_ents HI0.out (by omega))
  have HJ0 := Lib.hid (RdIds.of_ids HI1.out (by omega))
  have HEi : Hid (∀ x ∈ e0, IdOk x.id) := Lib.hid (fun x hx => by
    rcases HI0.out with ⟨-, -, -, h⟩ | ⟨-, -, -, -, -, -, h⟩
    · rw [h] at hx; cases hx
    · exact idOk_of (h x hx).2.2)
  have HJi : Hid (∀ x ∈ i1, IdOk x) := Lib.hid (fun x hx => by
    rcases HI1.out with ⟨-, -, -, h⟩ | ⟨-, -, -, -, -, -, h⟩
    · rw [h] at hx; cases hx
    · exact idOk_of (h x hx))
  clear HI0 HI1
  go_upto_region 5 with (fail)
  clear hdga hdgb hdgc hdgd ga gb gc
  have HEa : Hid (Below w.heap.size w w4) := Lib.hid (by have h := HBl.out; exact h)
  have HE := Lib.hid (HE0.out.below HEa.out)
  have HJ := Lib.hid (HJ0.out.below HEa.out)
  clear HE0 HJ0 HEa
  have HC := Lib.hid (encodeTree_any a0 len0 cap0 e0 w4 HE.out)
  go_wp2_with fail
  refine HC.out.mono ?_
  intro e w5 hr
  obtain ⟨hb, v, rfl, ho⟩ := et_one hr
  have HO := Lib.hid ho
  clear HC hr ho
  have e_HBl := Lib.hid (HBl.out.trans (hb.mono HBl.out.size))
  have e_HX := Lib.hid (World.rowIs.of_block HX.out (hb.block _ HX.out.lt))
  have e_HPT := Lib.hid (range_below hb HPT.out (HPT.out.lt_of (by rw [HLt.out]; decide)))
  have e_HT := Lib.hid (HT.out.next hb)
  have e_HB := Lib.hid (HB.out.below hb)
  have e_HE := Lib.hid (HE.out.below hb)
  have e_HJ := Lib.hid (HJ.out.below hb)
  clear HBl HX HPT HT HB HE HJ
  have HBl := e_HBl
  have HX := e_HX
  have HPT := e_HPT
  have HT := e_HT
  have HB := e_HB
  have HE := e_HE
  have HJ := e_HJ
  clear e_HBl e_HX e_HPT e_HT e_HB e_HE e_HJ
  clear hb
  obtain ⟨FF, hFF⟩ : ∃ FF, FF = eE e0 := ⟨_, rfl⟩
  have HFF := Lib.hid hFF
  rw [← hFF]
  clear hFF
  go_upto_if 54 with (fail)
  go_cut [] (fun wx => Hid (Below w.heap.size w wx) ∧ Hid (wx.rowIs PC 40 36 (cmF t1 (.slice a1 len1 cap1) u1 m1 g1)) ∧ Hid (wx.rangeAt PT 0 DT) ∧ Hid (t.Now wx) ∧ Hid (RdB wx a3 len3 cap3 z3) ∧ Hid (RdIds wx a1 len1 cap1 i1))
  case first =>
    by_cases h0 : FF = 0
    · have hd : (FF == 0) = true := by simp [h0]
      have hz0 : eE e0 = 0 := HFF.out.symm.trans h0
      have hel := HE.out.len
      have hF0 : eF e0 none = 0 := by
        unfold eE at hz0
        split at hz0
        · exact absurd hz0 (by decide)
        · exact hz0
      have hal := eF_all e0 none hF0
      obtain ⟨hby, hle⟩ := eB_by e0 (fun x hx => ⟨HEi.out x hx, hal x hx⟩)
      have hback := tree_back hz0 (fun x hx => (HEi.out x hx).1)
      have heR : eR e0 = eB e0 := by unfold eR; rw [if_pos hz0]
      rw [heR] at HO
      have hn7 : len0 ≤ 1000000 := HE.out.big
      have hn5 : e0.length ≤ 512 := by
        unfold eE at hz0
        split at hz0
        · exact absurd hz0 (by decide)
        · omega
      obtain ⟨Ax, Cx, rfl⟩ := own_sl HO.out
      have hrd := RdB.of_own2 HO.out (by omega) (hby.getD (Nat.le_refl _))
      have HC := Lib.hid (parseTree_any Ax (eB e0).length Cx (eB e0) w5 hrd)
      have HBk := Lib.hid hback
      have hleb : (eB e0).length ≤ 1000000 := by omega
      have HEl := Lib.hid hel
      clear hz0 hF0 hal hby hle hback heR hrd h0 hel hn5
      generalize eB e0 = EB at *
      go_wp2_with fail
      refine HC.out.mono ?_
      intro e w6 hr
      obtain ⟨hb, Am, Cm, rfl, hM⟩ := pt_one hleb hr
      rw [HBk.out] at hM ⊢
      have HM := Lib.hid hM
      clear HC hr hM HO
      have e_HBl := Lib.hid (HBl.out.trans (hb.mono HBl.out.size))
      have e_HX := Lib.hid (World.rowIs.of_block HX.out (hb.block _ HX.out.lt))
      have e_HPT := Lib.hid (range_below hb HPT.out (HPT.out.lt_of (by rw [HLt.out]; decide)))
      have e_HT := Lib.hid (HT.out.next hb)
      have e_HB := Lib.hid (HB.out.below hb)
      have e_HE := Lib.hid (HE.out.below hb)
      have e_HJ := Lib.hid (HJ.out.below hb)
      clear HBl HX HPT HT HB HE HJ
      have HBl := e_HBl
      have HX := e_HX
      have HPT := e_HPT
      have HT := e_HT
      have HB := e_HB
      have HE := e_HE
      have HJ := e_HJ
      clear e_HBl e_HX e_HPT e_HT e_HB e_HE e_HJ
      clear hb
      rw [HEl.out] at HM ⊢
      have HC := Lib.hid (sameE_any Am len0 Cm a0 cap0 e0 w6 HM.out HE.out)
      go_wp2_with fail
      refine HC.out.mono ?_
      rintro e w7 ⟨rfl, hb⟩
      clear HC HM
      have e_HBl := Lib.hid (HBl.out.trans (hb.mono HBl.out.size))
      have e_HX := Lib.hid (World.rowIs.of_block HX.out (hb.block _ HX.out.lt))
      have e_HPT := Lib.hid (range_below hb HPT.out (HPT.out.lt_of (by rw [HLt.out]; decide)))
      have e_HT := Lib.hid (HT.out.next hb)
      have e_HB := Lib.hid (HB.out.below hb)
      have e_HE := Lib.hid (HE.out.below hb)
      have e_HJ := Lib.hid (HJ.out.below hb)
      clear HBl HX HPT HT HB HE HJ
      have HBl := e_HBl
      have HX := e_HX
      have HPT := e_HPT
      have HT := e_HT
      have HB := e_HB
      have HE := e_HE
      have HJ := e_HJ
      clear e_HBl e_HX e_HPT e_HT e_HB e_HE e_HJ
      clear hb
      go_wp2_with fail
      go_meet
      exact ⟨HBl, HX, HPT, HT, HB, HJ⟩
    · have hd : (FF == 0) = false := by simp [h0]
      clear h0 HO HE
      go_wp2_with fail
      go_meet
      exact ⟨HBl, HX, HPT, HT, HB, HJ⟩
  case rest =>
    obtain ⟨f1, f2, f3, f4, f5, f6⟩ := hcut
    clear HBl HX HPT HT HB HJ HE HO HFF
    have HBl := f1
    have HX := f2
    have HPT := f3
    have HT := f4
    have HB := f5
    have HJ := f6
    clear f1 f2 f3 f4 f5 f6
    have HRx := Lib.hid (HRg.out wc PC HX.out)
    have HC := Lib.hid (HEc.out wc HJ.out)
    go_upto_region 10 with (fail)
    go_wp2_with (refine wpList_load_mid rfl _ _ rfl PC 0 rfl CM _ HRx.out Try.underlying40 rfl HSz2.out ?_)
    refine HC.out.mono ?_
    rintro e w8 ⟨hb, v, rfl, ho⟩
    have HO := Lib.hid ho
    clear HC ho HRx
    have e_HBl := Lib.hid (HBl.out.trans (hb.mono HBl.out.size))
    have e_HX := Lib.hid (World.rowIs.of_block HX.out (hb.block _ HX.out.lt))
    have e_HPT := Lib.hid (range_below hb HPT.out (HPT.out.lt_of (by rw [HLt.out]; decide)))
    have e_HT := Lib.hid (HT.out.next hb)
    have e_HB := Lib.hid (HB.out.below hb)
    have e_HJ := Lib.hid (HJ.out.below hb)
    clear HBl HX HPT HT HB HJ
    have HBl := e_HBl
    have HX := e_HX
    have HPT := e_HPT
    have HT := e_HT
    have HB := e_HB
    have HJ := e_HJ
    clear e_HBl e_HX e_HPT e_HT e_HB e_HJ
    clear hb
    obtain ⟨FF, hFF⟩ : ∃ FF, FF = wE t1 i1 u1 g1 := ⟨_, rfl⟩
    have HFF := Lib.hid hFF
    rw [← hFF]
    clear hFF
    go_upto_if 74 with (fail)
    go_cut [] (fun wx => Hid (Below w.heap.size w wx) ∧ Hid (wx.rowIs PC 40 36 (cmF t1 (.slice a1 len1 cap1) u1 m1 g1)) ∧ Hid (wx.rangeAt PT 0 DT) ∧ Hid (t.Now wx) ∧ Hid (RdB wx a3 len3 cap3 z3) ∧ Hid (RdIds wx a1 len1 cap1 i1))
    case first =>
      by_cases h0 : FF = 0
      · have hd : (FF == 0) = true := by simp [h0]
        have hz0 : wE t1 i1 u1 g1 = 0 := HFF.out.symm.trans h0
        obtain ⟨k1, k2, k3⟩ := wE_zero hz0
        have heR := ecR_ok (tm := m1) hz0
        rw [heR] at HO
        have hby := cmB_by (au := u1) (tm := m1) (ms := g1) HX1.out HJi.out k1
        have hle : (cmB t1 i1 u1 m1 g1).length ≤ 10000 := by
          rw [cmB_form _ _ _ _ _ k1]
          simp only [List.length_append, be_length, sv_len, HX1.out.1, flat32 i1 (fun x hx => (HJi.out x hx).1)]
          omega
        obtain ⟨r1, r2, r3, r4, r5, r6⟩ := commit_back (L := (cmB t1 i1 u1 m1 g1).length) hz0 HX1.out.1 (fun x hx => (HJi.out x hx).1) HQ1.out.1 HQ1.out.2 rfl rfl
        have HBk := Lib.hid (And.intro r1 (And.intro r2 (And.intro r3 (And.intro r4 (And.intro r5 r6)))))
        have hil := HJ.out.len
        obtain ⟨Ax, Cx, rfl⟩ := own_sl HO.out
        have hrd := RdB.of_own2 HO.out (by omega) (hby.getD (Nat.le_refl _))
        have HC := Lib.hid (parseCommit_any Ax (cmB t1 i1 u1 m1 g1).length Cx (cmB t1 i1 u1 m1 g1) w8 hrd)
        have HIl := Lib.hid hil
        clear hz0 k1 k2 k3 heR hby hle r1 r2 r3 r4 r5 r6 hrd h0 hil
        generalize cmB t1 i1 u1 m1 g1 = EB at *
        go_wp2_with fail
        refine HC.out.mono ?_
        intro e w9 hr
        obtain ⟨hb, tr, ids, au, tm, ms, Ac, Cc, htr, rfl, hI, hF⟩ := hr.flat
        obtain ⟨s1, s2, s3, s4, s5⟩ := hF HBk.out.1
        rw [HBk.out.2.1] at s1
        rw [HBk.out.2.2.1] at s2
        rw [HBk.out.2.2.2.1] at s3
        rw [HBk.out.2.2.2.2.1] at s4
        rw [HBk.out.2.2.2.2.2] at s5
        have s1 := s1.symm
        have s2 := s2.symm
        have s3 := s3.symm
        have s4 := s4.symm
        have s5 := s5.symm
        subst s1
        subst s2
        subst s3
        subst s4
        subst s5
        rw [HBk.out.1, HIl.out]
        rw [HIl.out] at hI
        have HM := Lib.hid hI
        clear HC hr hI hF HO HBk
        have e_HBl := Lib.hid (HBl.out.trans (hb.mono HBl.out.size))
        have e_HX := Lib.hid (World.rowIs.of_block HX.out (hb.block _ HX.out.lt))
        have e_HPT := Lib.hid (range_below hb HPT.out (HPT.out.lt_of (by rw [HLt.out]; decide)))
        have e_HT := Lib.hid (HT.out.next hb)
        have e_HB := Lib.hid (HB.out.below hb)
        have e_HJ := Lib.hid (HJ.out.below hb)
        clear HBl HX HPT HT HB HJ
        have HBl := e_HBl
        have HX := e_HX
        have HPT := e_HPT
        have HT := e_HT
        have HB := e_HB
        have HJ := e_HJ
        clear e_HBl e_HX e_HPT e_HT e_HB e_HJ
        clear hb
        have hcl := cm_len t1 (.slice Ac len1 Cc) u1 m1 g1 htr
        have hco := cm_one t1 (.slice Ac len1 Cc) u1 m1 g1 rfl
        obtain ⟨f1, f2⟩ := cm_lay w9 (cm t1 (.slice Ac len1 Cc) u1 m1 g1) hcl hco ZC HZl.out
        have HSn := Lib.hid (fun (W : World) h h' => HSc.out W Ac Cc h h')
        have HSz3 : Hid ((Try.prog.info? 40).map (·.size) = some (cm t1 (.slice Ac len1 Cc) u1 m1 g1).length) := Lib.hid (by rw [hcl]; kernel_rfl)
        have HLn := Lib.hid hcl
        have HFx := Lib.hid f1
        have HGx := Lib.hid f2
        clear f1 f2 hcl hco HSc htr
        generalize cm t1 (.slice Ac len1 Cc) u1 m1 g1 = CN at *
        go_upto_region 13 with (refine wpList_store_mid rfl _ _ _ rfl w9.heap.size 0 CN.toArray rfl rfl HFx.out.there HFx.out.size HFx.out.one ?_)
        change Code.wp _ _ _ _ ((w9.alloc (.cells ZC 40)).setCells w9.heap.size 0 CN)
        have hb := HFx.out.bel
        clear HFx
        generalize (w9.alloc (.cells ZC 40)).setCells w9.heap.size 0 CN = wX at *
        have e_HBl := Lib.hid (HBl.out.trans (hb.mono HBl.out.size))
        have e_HX := Lib.hid (World.rowIs.of_block HX.out (hb.block _ HX.out.lt))
        have e_HPT := Lib.hid (range_below hb HPT.out (HPT.out.lt_of (by rw [HLt.out]; decide)))
        have e_HT := Lib.hid (HT.out.next hb)
        have e_HB := Lib.hid (HB.out.below hb)
        have e_HJ := Lib.hid (HJ.out.below hb)
        have e_HM := Lib.hid (HM.out.below hb)
        clear HBl HX HPT HT HB HJ HM
        have HBl := e_HBl
        have HX := e_HX
        have HPT := e_HPT
        have HT := e_HT
        have HB := e_HB
        have HJ := e_HJ
        have HM := e_HM
        clear e_HBl e_HX e_HPT e_HT e_HB e_HJ e_HM
        clear hb
        generalize w9.heap.size = PN at *
        have HRx := Lib.hid (HRg.out wX PC HX.out)
        have HC := Lib.hid (HSn.out wX HM.out HJ.out)
        go_wp2_with (first
          | (refine wpList_load_g (by rfl) _ _ rfl PN 0 rfl CN _ HGx.out Try.underlying40 rfl HSz3.out ?_)
          | (refine wpList_load_g (by rfl) _ _ rfl PC 0 rfl CM _ HRx.out Try.underlying40 rfl HSz2.out ?_))
        refine HC.out.mono ?_
        rintro e wY ⟨rfl, hb⟩
        clear HC HM HRx HGx HSn
        have e_HBl := Lib.hid (HBl.out.trans (hb.mono HBl.out.size))
        have e_HX := Lib.hid (World.rowIs.of_block HX.out (hb.block _ HX.out.lt))
        have e_HPT := Lib.hid (range_below hb HPT.out (HPT.out.lt_of (by rw [HLt.out]; decide)))
        have e_HT := Lib.hid (HT.out.next hb)
        have e_HB := Lib.hid (HB.out.below hb)
        have e_HJ := Lib.hid (HJ.out.below hb)
        clear HBl HX HPT HT HB HJ
        have HBl := e_HBl
        have HX := e_HX
        have HPT := e_HPT
        have HT := e_HT
        have HB := e_HB
        have HJ := e_HJ
        clear e_HBl e_HX e_HPT e_HT e_HB e_HJ
        clear hb
        go_wp2_with fail
        go_meet
        exact ⟨HBl, HX, HPT, HT, HB, HJ⟩
      · have hd : (FF == 0) = false := by simp [h0]
        clear h0 HO
        go_wp2_with fail
        go_meet
        exact ⟨HBl, HX, HPT, HT, HB, HJ⟩
    case rest =>
      obtain ⟨f1, f2, f3, f4, f5, f6⟩ := hcut
      clear HBl HX HPT HT HB HJ HO HFF HEc HSc HRg
      have HBl := f1
      have HX := f2
      have HPT := f3
      have HT := f4
      have HB := f5
      have HJ := f6
      clear f1 f2 f3 f4 f5 f6
      have HC := Lib.hid (HE1.out wc HT.out)
      go_upto_region 15 with (fail)
      go_wp2_with (refine wpList_load_mid rfl _ _ rfl PT 0 rfl DT _ HPT.out Try.underlying68 rfl HSz1.out ?_)
      refine HC.out.mono ?_
      intro e w10 hr
      obtain ⟨hb, Ax, nx, Cx, rfl, ho⟩ := hr.flat
      have HO := Lib.hid ho
      clear HC hr ho HJ
      have e_HBl := Lib.hid (HBl.out.trans (hb.mono HBl.out.size))
      have e_HX := Lib.hid (World.rowIs.of_block HX.out (hb.block _ HX.out.lt))
      have e_HPT := Lib.hid (range_below hb HPT.out (HPT.out.lt_of (by rw [HLt.out]; decide)))
      have e_HT := Lib.hid (HT.out.next hb)
      have e_HB := Lib.hid (HB.out.below hb)
      clear HBl HX HPT HT HB
      have HBl := e_HBl
      have HX := e_HX
      have HPT := e_HPT
      have HT := e_HT
      have HB := e_HB
      clear e_HBl e_HX e_HPT e_HT e_HB
      clear hb
      obtain ⟨FF, hFF⟩ : ∃ FF, FF = txE t.D := ⟨_, rfl⟩
      have HFF := Lib.hid hFF
      rw [← hFF]
      clear hFF
      go_upto_if 94 with (fail)
      go_cut [] (fun wx => Hid (Below w.heap.size w wx) ∧ Hid (RdB wx a3 len3 cap3 z3))
      case first =>
        by_cases h0 : FF = 0
        · have hd : (FF == 0) = true := by simp [h0]
          have hz0 : txE t.D = 0 := HFF.out.symm.trans h0
          have heR : txBb t.D = txB t.D := by unfold txBb; rw [if_pos hz0]
          rw [heR] at HO
          have hby := txB_by HT.out hz0
          have hle := txB_le HT.out HFw2.out hz0
          obtain ⟨r1, r2⟩ := tx_back ⟨_, _, HT.out⟩ hz0
          have hnx : (txB t.D).length = nx := by have := HO.out.1; simpa [bv] using this
          rw [hnx] at r1 r2 hle
          have HBk := Lib.hid (And.intro r1 r2)
          have hrd := RdB.of_own2 HO.out (by omega) (hby.getD (by omega))
          have HC := Lib.hid (parseTx_any Ax nx Cx (txB t.D) w10 hrd)
          have HGd := Lib.hid (hby.getD (n := nx) (by omega))
          have HNx := Lib.hid hnx
          clear hz0 heR hby r1 r2 hrd h0 hnx
          go_wp2_with fail
          refine HC.out.mono ?_
          intro e w11 hr
          obtain ⟨hb, P, rfl, hPo, hPr, hPp⟩ := hr.flat HNx.out HGd.out (by omega)
          have HM : Hid (P.Now w11) := Lib.hid hPr
          rw [HBk.out.1]
          rw [HBk.out.2] at hPp
          have hsx := sxEq_ask hPp
          have HSx := Lib.hid hsx
          clear HC hr hPo hPr hPp hsx HO HBk
          have e_HBl := Lib.hid (HBl.out.trans (hb.mono HBl.out.size))
          have e_HX := Lib.hid (World.rowIs.of_block HX.out (hb.block _ HX.out.lt))
          have e_HPT := Lib.hid (range_below hb HPT.out (HPT.out.lt_of (by rw [HLt.out]; decide)))
          have e_HT := Lib.hid (HT.out.next hb)
          have e_HB := Lib.hid (HB.out.below hb)
          clear HBl HX HPT HT HB
          have HBl := e_HBl
          have HX := e_HX
          have HPT := e_HPT
          have HT := e_HT
          have HB := e_HB
          clear e_HBl e_HX e_HPT e_HT e_HB
          clear hb
          have hlp := HM.out.len
          obtain ⟨f1, f2⟩ := tx_lay w11 P.V hlp P.V_one ZT HZt.out
          have HSn := Lib.hid (fun (W : World) h k => HS1.out W P h k)
          have HSz3 : Hid ((Try.prog.info? 68).map (·.size) = some P.V.length) := Lib.hid (by rw [hlp]; exact infoTx)
          have HLn := Lib.hid hlp
          have HFx := Lib.hid f1
          have HGx := Lib.hid f2
          clear f1 f2 hlp HS1
          rw [HSx.out] at HSn
          generalize P.V = CN at *
          go_upto_region 18 with (refine wpList_store_mid rfl _ _ _ rfl w11.heap.size 0 CN.toArray rfl rfl HFx.out.there HFx.out.size HFx.out.one ?_)
          change Code.wp _ _ _ _ ((w11.alloc (.cells ZT 68)).setCells w11.heap.size 0 CN)
          have hb := HFx.out.bel
          clear HFx
          generalize (w11.alloc (.cells ZT 68)).setCells w11.heap.size 0 CN = wX at *
          have e_HBl := Lib.hid (HBl.out.trans (hb.mono HBl.out.size))
          have e_HX := Lib.hid (World.rowIs.of_block HX.out (hb.block _ HX.out.lt))
          have e_HPT := Lib.hid (range_below hb HPT.out (HPT.out.lt_of (by rw [HLt.out]; decide)))
          have e_HT := Lib.hid (HT.out.next hb)
          have e_HB := Lib.hid (HB.out.below hb)
          have e_HM := Lib.hid (HM.out.next hb)
          clear HBl HX HPT HT HB HM
          have HBl := e_HBl
          have HX := e_HX
          have HPT := e_HPT
          have HT := e_HT
          have HB := e_HB
          have HM := e_HM
          clear e_HBl e_HX e_HPT e_HT e_HB e_HM
          clear hb
          generalize w11.heap.size = PN at *
          have HC := Lib.hid (HSn.out wX HM.out HT.out)
          go_wp2_with (first
            | (refine wpList_load_g (by rfl) _ _ rfl PN 0 rfl CN _ HGx.out Try.underlying68 rfl HSz3.out ?_)
            | (refine wpList_load_g (by rfl) _ _ rfl PT 0 rfl DT _ HPT.out Try.underlying68 rfl HSz1.out ?_))
          refine HC.out.mono ?_
          rintro e wY ⟨rfl, hb⟩
          clear HC HM HGx HSn
          have e_HBl := Lib.hid (HBl.out.trans (hb.mono HBl.out.size))
          have e_HX := Lib.hid (World.rowIs.of_block HX.out (hb.block _ HX.out.lt))
          have e_HPT := Lib.hid (range_below hb HPT.out (HPT.out.lt_of (by rw [HLt.out]; decide)))
          have e_HT := Lib.hid (HT.out.next hb)
          have e_HB := Lib.hid (HB.out.below hb)
          clear HBl HX HPT HT HB
          have HBl := e_HBl
          have HX := e_HX
          have HPT := e_HPT
          have HT := e_HT
          have HB := e_HB
          clear e_HBl e_HX e_HPT e_HT e_HB
          clear hb
          go_wp2_with fail
          go_meet
          exact ⟨HBl, HB⟩
        · have hd : (FF == 0) = false := by simp [h0]
          clear h0 HO
          go_wp2_with fail
          go_meet
          exact ⟨HBl, HB⟩
      case rest =>
        obtain ⟨f1, f2⟩ := hcut
        clear HBl HX HPT HT HB HO HFF HE1 HS1
        have HC := Lib.hid (again_any a3 len3 cap3 z3 wc f2.out (by omega))
        have HBl := f1
        clear f1 f2
        go_wp2_with fail
        refine HC.out.mono ?_
        rintro e wZ ⟨rfl, hb⟩
        have HBz := Lib.hid (HBl.out.trans (hb.mono HBl.out.size))
        clear HC hb HBl
        go_wp2_with fail
        go_ret
        exact ⟨rfl, HBz.out⟩
end Go.Proofs.Ytmcmapgllaopmaa.Cd
end
