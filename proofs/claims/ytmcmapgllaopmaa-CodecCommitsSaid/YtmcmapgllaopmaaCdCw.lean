/- The walk of CodecCommits. -/
import Derived.Test.YtmcmapgllaopmaaCdCm
namespace Go.Proofs.Ytmcmapgllaopmaa.Cd
open Go.RowKit
set_option linter.unusedVariables false
theorem own_b0 (w : World) : (w.alloc (.cells #[] 5)).ownsRow w.heap.size 5 1 (.slice (some ⟨w.heap.size, 0, none⟩) 0 0) 0 (bv []) :=
  ⟨rfl, .inr ⟨w.heap.size, 0, #[], rfl, Nat.le_refl _, by show (w.heap.push _)[w.heap.size]? = _; simp, Nat.le_refl _, Nat.zero_le _, rfl, rfl⟩⟩

set_option maxRecDepth 100000 in
set_option maxHeartbeats 2000000 in
theorem walk_commits (w : World) (t0 : List Int) (x0 : Fr.IsId t0) (a0 : Option Addr) (len0 cap0 : Nat) (i0 : List (List Int)) (w0 : Fr.IsIds w a0 len0 cap0 i0) (u0 : ByteArray) (y0 : u0.size ≤ 140737488351232) (m0 : Int) (q0 : (Lit.int .i64 m0).wf = true) (g0 : ByteArray) (z0 : g0.size ≤ 140737488351232) (a1 : Option Addr) (len1 cap1 : Nat) (z1 : List Int) (w1 : Fr.IsInts .u8 1 w a1 len1 cap1 z1) :
    Calls Try.prog 4 #[.agg (cm t0 (.slice a0 len0 cap0) u0 m0 g0).toArray, .slice a1 len1 cap1] w fun e w' => e = .returned (.bool true) ∧ Below w.heap.size w w' := by
  have hl0 : t0.length = 32 := x0.1
  have hX := cm_row w t0 (.slice a0 len0 cap0) u0 m0 g0 hl0
  have hb0 := (Below.refl w.heap.size w).alloc (Nat.le_refl _) (.cells (cm t0 (.slice a0 len0 cap0) u0 m0 g0).toArray 40)
  have HSz := Lib.hid (show (Try.prog.info? 40).map (·.size) = some (cm t0 (.slice a0 len0 cap0) u0 m0 g0).length by rw [cm_len _ _ _ _ _ hl0]; kernel_rfl)
  have HK := Lib.hid (Cd.known_any (w.alloc (.cells (cm t0 (.slice a0 len0 cap0) u0 m0 g0).toArray 40)))
  have HB1 := Lib.hid ((Cd.rd_of_ints w1).below hb0)
  have HI0 := Lib.hid w0
  have HB := Lib.hid hb0
  have HX := Lib.hid hX
  have hXlt := hX.lt
  have hsz1 : w.heap.size ≤ (w.alloc (.cells (cm t0 (.slice a0 len0 cap0) u0 m0 g0).toArray 40)).heap.size := al_le _ _
  have Hl0 := Lib.hid hl0
  have HQ0 := Lib.hid q0
  have hb1 := HB1.out.big
  have hz : ∀ w : World, (zeroValue 40).run Try.prog w = .ok (.agg cm0.toArray) w := zeroCm
  have hZl : cm0.toArray.size = 36 := by rw [List.size_toArray, cm0_len]
  generalize hZC : cm0.toArray = ZC at *
  have HZl := Lib.hid hZl
  have HE1 := Lib.hid (fun (W : World) h => encodeCommit_any t0 hl0 a0 len0 cap0 i0 u0 m0 g0 W h)
  have HE2 := Lib.hid (fun (W : World) h => rencodeCommit_any t0 hl0 a0 len0 cap0 i0 u0 m0 g0 W h)
  have HRg := Lib.hid (fun (W : World) (h : W.rowIs w.heap.size 40 36 (cmF t0 (.slice a0 len0 cap0) u0 m0 g0)) => cm_range h hl0)
  clear hZl hZC hX hb0 w0 w1 hl0 x0 q0
  generalize cm t0 (.slice a0 len0 cap0) u0 m0 g0 = CM at *
  go_enter Try.func4, Try.ntmps4
  have hag : (Value.agg CM.toArray).cells = CM.toArray := rfl
  go_upto_region 1 with (fail)
  generalize w.alloc (.cells CM.toArray 40) = wA at *
  obtain ⟨X, hXe⟩ : ∃ X, X = w.heap.size := ⟨_, rfl⟩
  rw [← hXe] at HX hXlt HRg ⊢
  have HXw := Lib.hid hXe
  clear hag hXe
  go_wp2_with fail
  refine HK.out.mono ?_
  rintro e w2 ⟨rfl, hb⟩
  have HB2 := Lib.hid (HB.out.trans (hb.mono hsz1))
  have HR2 := Lib.hid (HB1.out.below hb)
  have HX2 := Lib.hid (World.rowIs.of_block HX.out (hb.block X hXlt))
  have hba := HB.out
  clear hb HK HB HB1 HX hXlt
  have hc32 : w2.cell? ⟨X, 32, none⟩ = some (.slice a0 len0 cap0) := HX2.out.cell (i := 32) (by omega)
  have hc33 : w2.cell? ⟨X, 33, none⟩ = some (.string u0) := HX2.out.cell (i := 33) (by omega)
  have hc35 : w2.cell? ⟨X, 35, none⟩ = some (.string g0) := HX2.out.cell (i := 35) (by omega)
  have hsum : IntKind.i64.wrap ((u0.size : Int) + (g0.size : Int)) = (u0.size : Int) + (g0.size : Int) := IntWalk.i64_in _ (by omega)
  by_cases g50 : 50 < len0
  · have hd : decide ((50 : Int) < (len0 : Int)) = true := by simp; omega
    go_wp2_with fail
    go_ret
    exact ⟨rfl, HB2.out⟩
  · have hd : decide ((50 : Int) < (len0 : Int)) = false := by simp; omega
    by_cases gs : 5000 < u0.size + g0.size
    · have hds : decide ((5000 : Int) < (u0.size : Int) + (g0.size : Int)) = true := by simp; omega
      go_wp2_with fail
      go_ret
      exact ⟨rfl, HB2.out⟩
    · have hds : decide ((5000 : Int) < (u0.size : Int) + (g0.size : Int)) = false := by simp; omega
      by_cases gb : 16384 < len1
      · have hdb : decide ((16384 : Int) < (len1 : Int)) = true := by simp; omega
        go_wp2_with fail
        go_ret
        exact ⟨rfl, HB2.out⟩
      · have hdb : decide ((16384 : Int) < (len1 : Int)) = false := by simp; omega
        have HI2 := Lib.hid ((RdIds.of_ids HI0.out (by omega)).below HB2.out)
        have hs2 : w.heap.size ≤ w2.heap.size := HB2.out.size
        have hX2 : X < w2.heap.size := HX2.out.lt
        have HL1 := Lib.hid HR2.out.len
        clear HI0 hba hsz1 HQ0
        have HT1 := Lib.hid (HE1.out w2 HI2.out)
        have HRg2 := Lib.hid (HRg.out w2 HX2.out)
        go_wp2_with (refine wpList_load_mid rfl _ _ rfl X 0 rfl CM _ HRg2.out Try.underlying40 rfl HSz.out ?_)
        refine HT1.out.mono ?_
        rintro e w3 ⟨hb, vx, rfl, hox⟩
        have HX3 := Lib.hid (World.rowIs.of_block HX2.out (hb.block X hX2))
        have HI3 := Lib.hid (HI2.out.below hb)
        have HR3 := Lib.hid (HR2.out.below hb)
        have HO3 := Lib.hid hox
        have HB3 := Lib.hid (HB2.out.trans (hb.mono hs2))
        have hs3 : w.heap.size ≤ w3.heap.size := HB3.out.size
        clear hb hox HT1 HRg2 HX2 HI2 HR2 HB2 hX2 hs2 hc32 hc33 hc35 hsum g50 gs hd hds hdb
        have HT2 := Lib.hid (HE2.out w3 HI3.out)
        have HRg3 := Lib.hid (HRg.out w3 HX3.out)
        go_wp2_with (refine wpList_load_mid rfl _ _ rfl X 0 rfl CM _ HRg3.out Try.underlying40 rfl HSz.out ?_)
        refine HT2.out.mono ?_
        rintro e w6 ⟨hb, vy, rfl, hoy⟩
        have HR6 := Lib.hid (HR3.out.below hb)
        have HX6 := Lib.hid (own_keep HO3.out hb)
        have HY6 := Lib.hid hoy
        have HB6 := Lib.hid (HB3.out.trans (hb.mono hs3))
        have hs6 : w.heap.size ≤ w6.heap.size := HB6.out.size
        clear hb hoy HT2 HRg3 HX3 HI3 HR3 HO3 HB3 hs3 HE1 HE2 HRg HSz
        have hba := (Below.refl w6.heap.size w6).alloc (Nat.le_refl _) (.cells #[] 5)
        have HR7 := Lib.hid (HR6.out.below hba)
        have HBa := Lib.hid hba
        have hs7 := al_le w6 (.cells #[] 5)
        clear hba
        go_wp2_with (refine wpList_append_rd _ rfl _ _ rfl w6.heap.size _ 0 [] rfl (own_b0 w6) a1 len1 cap1 z1 rfl HR7.out (by omega) hs7 ?_)
        intro A8 C8 w8 ho hg
        have hb68 : Below w6.heap.size w6 w8 := HBa.out.trans hg
        have hby := HR6.out.byte
        have HZ8 := Lib.hid (RdB.of_own2 (n := len1) (l := z1) ho (by omega) hby)
        have HR8 := Lib.hid (HR6.out.below hb68)
        have HX8 := Lib.hid (own_keep HX6.out hb68)
        have HY8 := Lib.hid (own_keep HY6.out hb68)
        have HB8 := Lib.hid (HB6.out.trans (hb68.mono hs6))
        have hs8 : w.heap.size ≤ w8.heap.size := HB8.out.size
        clear ho hg hb68 hby HR7 HBa hs7 HR6 HX6 HY6 HB6
        obtain ⟨tp, idp, aup, tmp, msp, htp, hps⟩ := pc_same z1 len1
        have HPS := Lib.hid hps
        have Htp := Lib.hid htp
        clear hps htp
        have HP1 := Lib.hid (parseCommit_any A8 len1 C8 z1 w8 HZ8.out)
        go_wp2_with fail
        refine HP1.out.mono ?_
        intro e w9 hr
        obtain ⟨hb, Ap, Cp, rfl, hp⟩ := HPS.out _ _ _ hr
        have HR9 := Lib.hid (HR8.out.below hb)
        have HX9 := Lib.hid (own_keep HX8.out hb)
        have HY9 := Lib.hid (own_keep HY8.out hb)
        have HPp := Lib.hid hp
        have HB9 := Lib.hid (HB8.out.trans (hb.mono hs8))
        have hs9 : w.heap.size ≤ w9.heap.size := HB9.out.size
        clear hr hb hp HP1 HR8 HX8 HY8 HB8 HZ8 hs8
        have hcl : (cm tp (.slice Ap idp.length Cp) aup tmp msp).length = 36 := cm_len _ _ _ _ _ Htp.out
        have hco := cm_one tp (.slice Ap idp.length Cp) aup tmp msp rfl
        generalize hCP : cm tp (.slice Ap idp.length Cp) aup tmp msp = CP at *
        have HCP := Lib.hid hCP
        obtain ⟨hf, hrg⟩ := cm_lay w9 CP hcl hco ZC HZl.out
        have HSP : Hid ((Try.prog.info? 40).map (·.size) = some CP.length) := Lib.hid (by rw [hcl]; kernel_rfl)
        have HFp := Lib.hid hf
        have HGp := Lib.hid hrg
        have hPl : w9.heap.size < ((w9.alloc (.cells ZC 40)).setCells w9.heap.size 0 CP).heap.size := hrg.lt_of (by omega)
        have HR10 := Lib.hid (HR9.out.below hf.bel)
        have HX10 := Lib.hid (own_keep HX9.out hf.bel)
        have HY10 := Lib.hid (own_keep HY9.out hf.bel)
        have HPp10 := Lib.hid (HPp.out.below hf.bel)
        have HB10 := Lib.hid (HB9.out.trans (hf.bel.mono hs9))
        have hs10 : w.heap.size ≤ ((w9.alloc (.cells ZC 40)).setCells w9.heap.size 0 CP).heap.size := HB10.out.size
        clear hCP hcl hco hf hrg HR9 HX9 HY9 HPp HB9
        go_upto_region 8 with (refine wpList_store_mid rfl _ _ _ rfl w9.heap.size 0 CP.toArray rfl rfl HFp.out.there HFp.out.size HFp.out.one ?_)
        change Code.wp _ _ _ _ ((w9.alloc (.cells ZC 40)).setCells w9.heap.size 0 CP)
        clear HFp
        generalize (w9.alloc (.cells ZC 40)).setCells w9.heap.size 0 CP = wB at *
        generalize w9.heap.size = P at *
        have HP2 := Lib.hid (rparseCommit_any a1 len1 cap1 z1 wB HR10.out)
        go_wp2_with fail
        refine HP2.out.mono ?_
        intro e w11 hr
        obtain ⟨hb, Aq, Cq, rfl, hq⟩ := HPS.out _ _ _ hr
        have HX11 := Lib.hid (own_keep HX10.out hb)
        have HY11 := Lib.hid (own_keep HY10.out hb)
        have HP11 := Lib.hid (HPp10.out.below hb)
        have HG11 := Lib.hid (range_below hb HGp.out hPl)
        have HQ11 := Lib.hid hq
        have HB11 := Lib.hid (HB10.out.trans (hb.mono hs10))
        have hs11 : w.heap.size ≤ w11.heap.size := HB11.out.size
        have hP11 : P < w11.heap.size := Nat.lt_of_lt_of_le hPl hb.size
        clear hr hb hq HP2 HR10 HX10 HY10 HPp10 HB10 hs10 HGp hPl HPS
        have hcl : (cm tp (.slice Aq idp.length Cq) aup tmp msp).length = 36 := cm_len _ _ _ _ _ Htp.out
        have hco := cm_one tp (.slice Aq idp.length Cq) aup tmp msp rfl
        generalize hCQ : cm tp (.slice Aq idp.length Cq) aup tmp msp = CQ at *
        have HCQ := Lib.hid hCQ
        obtain ⟨hf, hrg⟩ := cm_lay w11 CQ hcl hco ZC HZl.out
        have HSQ : Hid ((Try.prog.info? 40).map (·.size) = some CQ.length) := Lib.hid (by rw [hcl]; kernel_rfl)
        have HFq := Lib.hid hf
        have HGq := Lib.hid hrg
        have HGp := Lib.hid (range_below hf.bel HG11.out hP11)
        have hx := conv_own' (own_keep HX11.out hf.bel)
        have hy := conv_own' (own_keep HY11.out hf.bel)
        have HB12 := Lib.hid (HB11.out.trans (hf.bel.mono hs11))
        have hs12 : w.heap.size ≤ ((w11.alloc (.cells ZC 40)).setCells w11.heap.size 0 CQ).heap.size := HB12.out.size
        have hsc := sameCommit_any tp Htp.out Ap idp.length Cp Aq Cq idp aup tmp msp _ (HP11.out.below hf.bel) (HQ11.out.below hf.bel)
        rw [HCP.out, hCQ] at hsc
        have HSC := Lib.hid hsc
        have hse := conv_eq (sb (ecR t0 i0 u0 m0 g0))
        clear hCQ hcl hco hf hrg HX11 HY11 HP11 HG11 HQ11 HB11 hsc hs11 hP11
        go_upto_region 9 with (refine wpList_store_mid rfl _ _ _ rfl w11.heap.size 0 CQ.toArray rfl rfl HFq.out.there HFq.out.size HFq.out.one ?_)
        change Code.wp _ _ _ _ ((w11.alloc (.cells ZC 40)).setCells w11.heap.size 0 CQ)
        clear HFq
        generalize (w11.alloc (.cells ZC 40)).setCells w11.heap.size 0 CQ = wC at *
        generalize w11.heap.size = QB at *
        generalize sb (ecR t0 i0 u0 m0 g0) = SB at *
        generalize wE t0 i0 u0 g0 = EE at *
        generalize cF7 0 z1 0 len1 = FF at *
        go_wp2_with (first
          | (refine wpList_load_g (by rfl) _ _ rfl P 0 rfl CP _ HGp.out Try.underlying40 rfl HSP.out ?_)
          | (refine wpList_load_g (by rfl) _ _ rfl QB 0 rfl CQ _ HGq.out Try.underlying40 rfl HSQ.out ?_))
        refine HSC.out.mono ?_
        rintro e w13 ⟨rfl, hb⟩
        have HB13 := Lib.hid (HB12.out.trans (hb.mono hs12))
        clear hb HSC HB12
        go_wp2_with fail
        go_ret
        exact ⟨rfl, HB13.out⟩
end Go.Proofs.Ytmcmapgllaopmaa.Cd
