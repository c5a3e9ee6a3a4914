/- delta.Apply, walked: the walk. -/
import Derived.Test.YtkelgaanehihbaaDtApply
import Derived.WalkMore
namespace Go.Proofs.Ytkelgaanehihbaa.Dt
open Go.RowKit
set_option linter.unusedVariables false

theorem st_new (w : World) (T : TypeId) (a : Option Addr) (len cap : Nat) (zs : List Int) (h : Sl w a len cap zs) (hne : ∀ b off, a = some ⟨b, off, none⟩ → 0 < len → b < w.heap.size) :
    StE (w.alloc (.cells #[.slice a len cap, .bool false] T)) w.heap.size zs false := by
  refine ⟨a, len, cap, by simp, by simp, World.frozen?_alloc_new _ _ _ _, World.frozen?_alloc_new _ _ _ _, ?_, hne⟩
  exact h.kept ((Below.refl w.heap.size w).alloc (Nat.le_refl _) _) hne

theorem own_shape {w : World} {B e : Nat} {v : Value} {n : Nat} {xs : List Value} (h : w.ownsRow B e 1 v n xs) : ∃ A C, v = .slice A n C ∧ n ≤ C ∧ C ≤ 9223372036854775807 ∧ (∀ k, v.ownBlock = some k → B ≤ k) := by
  rcases h.2 with ⟨rfl, rfl⟩ | ⟨g, cap, cur, rfl, hg, _, h1, h2, _⟩
  · exact ⟨none, 0, rfl, Nat.le_refl _, by omega, by simp [Value.ownBlock]⟩
  · unfold maxLen at h2
    exact ⟨_, cap, rfl, h1, by omega, by simp [Value.ownBlock]; exact hg⟩

theorem own_base {w : World} {B B' e : Nat} {v : Value} {n : Nat} {xs : List Value} (h : w.ownsRow B' e 1 v n xs) (hb : B ≤ B') : w.ownsRow B e 1 v n xs := by
  refine ⟨h.1, ?_⟩
  rcases h.2 with h1 | ⟨g, cap, cur, h1, hg, h2⟩
  · exact .inl h1
  · exact .inr ⟨g, cap, cur, h1, by omega, h2⟩

theorem step_err {base zs : List Int} {e : Int} (h : step base zs = .error e) : e = 14 ∨ e = 16 := by
  unfold step at h
  split at h
  · split at h
    · cases h; simp
    · split at h
      · cases h; simp
      · split at h
        · cases h; simp
        · cases h
  · split at h
    · split at h
      · cases h; simp
      · split at h
        · cases h; simp
        · split at h
          · cases h; simp
          · cases h
    · cases h; simp

theorem step_pos {base zs p rest : List Int} (h : step base zs = .ok (p, rest)) (hbd : ∀ i, i < zs.length → 0 ≤ zs.getD i 0 ∧ zs.getD i 0 ≤ 255) : 0 < p.length := by
  have h1 := num_bd _ (drop_bd hbd 1)
  have h5 := num_bd _ (drop_bd hbd 5)
  unfold step at h
  split at h
  · split at h
    · cases h
    · split at h
      · cases h
      · split at h
        · cases h
        · cases h; rw [List.length_take, List.length_drop]; omega
  · split at h
    · split at h
      · cases h
      · split at h
        · cases h
        · split at h
          · cases h
          · cases h; rw [List.length_take, List.length_drop]; omega
    · cases h

set_option maxHeartbeats 1000000 in
theorem apply_any (B : Nat) (a1 : Option Addr) (l1 c1 : Nat) (z1 : List Int) (a2 : Option Addr) (l2 c2 : Nat) (z2 : List Int) (w : World) (h1 : Sl w a1 l1 c1 z1) (h2 : Sl w a2 l2 c2 z2) (hB : B ≤ w.heap.size)
    (hlt1 : ∀ b off, a1 = some ⟨b, off, none⟩ → 0 < l1 → b < B) (hlt2 : ∀ b off, a2 = some ⟨b, off, none⟩ → 0 < l2 → b < B) :
    Calls Try.prog 8 #[.slice a1 l1 c1, .slice a2 l2 c2] w (ApRet B (ap z1 z2) w) := by
  have HST0 := Lib.hid (st_new w 39 a2 l2 c2 z2 h2 (fun b off he hl => by have := hlt2 b off he hl; omega))
  have HB0 := Lib.hid ((Below.refl B w).alloc hB (.cells #[.slice a2 l2 c2, .bool false] 39))
  have hl2 := h2.hlen
  have hl1 := h1.hlen
  have b1 : l1 ≤ 140737488355328 := h1.hbig
  have H1 := Lib.hid h1
  have HL1 := Lib.hid hlt1
  have hbd := h2.hbyte
  rw [← hl2] at hbd
  have hn0 := num_bd _ hbd
  have hn4 := num_bd _ (drop_bd hbd 4)
  clear h1 h2 hlt1 hlt2 hbd
  by_cases g4 : z2.length < 4
  · have HAP : Hid (ap z1 z2 = ([], 14)) := Lib.hid (by unfold ap; rw [if_pos (by omega)])
    rw [HAP.out]
    go_enter Try.func8, Try.ntmps8
    go_wp2
    go_step3
    go_wp2_with fail
    refine (number_cut w.heap.size _ _ _ HST0.out (by omega)).mono ?_
    rintro e w1 ⟨rfl, hst, hg⟩
    have HST1 := Lib.hid hst
    have HB1 := Lib.hid (HB0.out.trans (below_of_grown hg (by simp; omega) hB))
    clear hst hg
    go_wp2_with fail
    refine (number_cut w.heap.size _ _ _ HST1.out (by omega)).mono ?_
    rintro e w2 ⟨rfl, hst, hg⟩
    obtain ⟨ak, lk, ck, hk⟩ := hst
    have hcut := hk.c1
    have HB2 := Lib.hid (HB1.out.trans (below_of_grown hg (by have := HB1.out.size; omega) hB))
    clear hk hg
    go_wp2
    rw [Exit.noGoto_ret]
    go_ret2
    exact ApRet.nil HB2.out
  by_cases g8 : z2.length < 8
  · have HAP : Hid (ap z1 z2 = ([], 14)) := Lib.hid (by unfold ap; rw [if_pos (by omega)])
    rw [HAP.out]
    go_enter Try.func8, Try.ntmps8
    go_wp2
    go_step3
    go_wp2_with fail
    refine (number_ok w.heap.size _ _ _ HST0.out (by omega)).mono ?_
    rintro e w1 ⟨rfl, hst, hg⟩
    have HST1 := Lib.hid hst
    have HB1 := Lib.hid (HB0.out.trans (below_of_grown hg (by simp; omega) hB))
    clear hst hg
    go_wp2_with fail
    refine (number_cut w.heap.size _ _ _ HST1.out (by simp; omega)).mono ?_
    rintro e w2 ⟨rfl, hst, hg⟩
    obtain ⟨ak, lk, ck, hk⟩ := hst
    have hcut := hk.c1
    have HB2 := Lib.hid (HB1.out.trans (below_of_grown hg (by have := HB1.out.size; omega) hB))
    clear hk hg
    go_wp2
    rw [Exit.noGoto_ret]
    go_ret2
    exact ApRet.nil HB2.out
  generalize hN0 : num z2 = n0 at hn0
  generalize hN4 : num (z2.drop 4) = n4 at hn4
  by_cases gt' : ¬ n0 = (l1 : Int)
  · have gt := gt'
    have HAP : Hid (ap z1 z2 = ([], 1)) := Lib.hid (by unfold ap; rw [if_neg (by omega), if_pos (by rw [hN0, hl1]; exact gt)])
    rw [HAP.out]
    have HN0 := Lib.hid hN0
    have HN4 := Lib.hid hN4
    have hne : (n0 != (l1 : Int)) = true := by simp; exact gt
    clear hN0 hN4 gt gt'
    go_enter Try.func8, Try.ntmps8
    go_wp2
    go_step3
    go_wp2_with fail
    refine (number_ok w.heap.size _ _ _ HST0.out (by omega)).mono ?_
    rintro e w1 ⟨rfl, hst, hg⟩
    rw [HN0.out]
    have HST1 := Lib.hid hst
    have HB1 := Lib.hid (HB0.out.trans (below_of_grown hg (by simp; omega) hB))
    clear hst hg
    go_wp2_with fail
    refine (number_ok w.heap.size _ _ _ HST1.out (by simp; omega)).mono ?_
    rintro e w2 ⟨rfl, hst, hg⟩
    rw [HN4.out]
    obtain ⟨ak, lk, ck, hk⟩ := hst
    have hcut := hk.c1
    have HB2 := Lib.hid (HB1.out.trans (below_of_grown hg (by have := HB1.out.size; omega) hB))
    clear hk hg
    go_wp2
    rw [Exit.noGoto_ret]
    go_ret2
    exact ApRet.nil HB2.out
  have gt : n0 = (l1 : Int) := Decidable.not_not.1 gt'
  have HAP : Hid (ap z1 z2 = run z1 n4 (z2.length + 1) (z2.drop 8) []) := Lib.hid (by unfold ap; rw [if_neg (by omega), if_neg (by rw [hN0, hl1]; exact fun h => h gt), hN4])
  have HN0 := Lib.hid hN0
  have HN4 := Lib.hid hN4
  have hne : (n0 != (l1 : Int)) = false := by simp [gt]
  have HRUN : Hid (ap z1 z2 = run z1 n4 ((z2.drop 8).length + 1) (z2.drop 8) []) := Lib.hid (by rw [HAP.out]; exact run_fuel _ _ _ _ _ _ (by simp; omega) (by omega))
  clear hN0 hN4 gt gt' HAP
  go_enter Try.func8, Try.ntmps8
  go_wp2
  go_step3
  go_wp2_with fail
  refine (number_ok w.heap.size _ _ _ HST0.out (by omega)).mono ?_
  rintro e w1 ⟨rfl, hst, hg⟩
  rw [HN0.out]
  have HST1 := Lib.hid hst
  have HB1 := Lib.hid (HB0.out.trans (below_of_grown hg (by simp; omega) hB))
  have hs1 : w.heap.size < w1.heap.size := by have := hg.size; simp at this; omega
  clear hst hg
  go_wp2_with fail
  refine (number_ok w.heap.size _ _ _ HST1.out (by simp; omega)).mono ?_
  rintro e w2 ⟨rfl, hst, hg⟩
  rw [HN4.out]
  rw [List.drop_drop] at hst
  have HB2 := Lib.hid (HB1.out.trans (below_of_grown hg (by have := HB1.out.size; omega) hB))
  have hs2 : w.heap.size < w2.heap.size := by have := hg.size; omega
  have HST2 := Lib.hid hst
  obtain ⟨ak, lk, ck, hk⟩ := hst
  have hcut := hk.c1
  clear hg hk HST1 HST0 HB1 HB0 HN0 HN4
  go_wp2
  go_step3
  go_wp2
  obtain ⟨i0, hi, hz0, hz1, hz2⟩ := info_parts info5
  obtain ⟨R, hR⟩ : ∃ R, R = w.heap.size := ⟨_, rfl⟩
  have HS2 : Hid (StE w2 R (z2.drop 8) false) := Lib.hid (by rw [hR]; exact HST2.out)
  have hsR : R < w2.heap.size := by rw [hR]; exact hs2
  have hBR : B ≤ R := by rw [hR]; exact hB
  rw [← hR]
  clear hR hcut HST2 hs2 hs1
  go_loopg [9] (z2.drop 8).length (fun k v wr => ∃ zs out, Hid (zs.length = k) ∧ Hid (StE wr R zs false) ∧ Hid (wr.ownsRow (R + 1) 5 1 v out.length (bv out)) ∧ Hid (Below B w wr) ∧ Hid (ap z1 z2 = run z1 n4 (zs.length + 1) zs out) ∧ (out.length : Int) ≤ n4 ∧ R < wr.heap.size)
  case atStart => exact ⟨z2.drop 8, [], Lib.hid rfl, HS2, Lib.hid (World.ownsRow_nil _ _ _ _), HB2, HRUN, by simp; omega, hsR⟩
  case round =>
    clear HB2 HS2 HRUN hsR
    obtain ⟨zs, out, HK, HST, HOW, HB, HRUN, hout, hsz⟩ := hrel
    obtain ⟨A, C, hv, hc1, hc2, hown⟩ := own_shape HOW.out
    subst hv
    have HOWN := Lib.hid hown
    clear hown
    obtain ⟨a, len, cap, hst⟩ := HST.out
    have q0 := hst.c0
    have hzl := hst.sl.hlen
    have hreach : len ≤ 140737488355328 := hst.sl.hbig
    have hbd := hst.sl.hbyte
    rw [← hzl] at hbd
    clear hst
    by_cases hz : zs.length = 0
    · obtain rfl : len = 0 := by omega
      have HE := Lib.hid (run_stop z1 n4 zs out hz)
      clear hbd hzl hz
      by_cases hw : (out.length : Int) < n4
      · have HR : Hid (ap z1 z2 = ([], 16)) := Lib.hid (by rw [HRUN.out, HE.out, if_pos hw])
        clear HE HRUN
        go_wp2
        go_ret2
        rw [HR.out]
        exact ApRet.nil HB.out
      · have HR : Hid (ap z1 z2 = (out, 0)) := Lib.hid (by rw [HRUN.out, HE.out, if_neg hw])
        clear HE HRUN
        go_wp2
        go_ret2
        rw [HR.out]
        exact ⟨_, rfl, own_base HOW.out (by omega), HB.out⟩
    · have HP := Lib.hid (fun p rest (h : step z1 zs = .ok (p, rest)) => step_pos h hbd)
      have HSL := Lib.hid (H1.out.kept HB.out HL1.out)
      have HNE : Hid (∀ b off, a1 = some ⟨b, off, none⟩ → 0 < l1 → b < R) := Lib.hid (fun b off he hl => by have := HL1.out b off he hl; omega)
      have HSP := Lib.hid (step_any R a1 l1 c1 z1 zs wr HST.out HSL.out HNE.out (by omega))
      cases hs : step z1 zs with
      | error er =>
        have HR : Hid (ap z1 z2 = ([], er)) := Lib.hid (by rw [HRUN.out, run_err _ _ _ _ hz hs])
        rw [HR.out]
        have hne0 : (er != 0) = true := by rcases step_err hs with rfl | rfl <;> rfl
        rw [hs] at HSP
        clear HRUN hs hbd
        go_wp2_with fail
        refine HSP.out.mono ?_
        rintro e w3 ⟨rfl, hg⟩
        have HB3 := Lib.hid (HB.out.trans (below_of_grown hg (by have := HB.out.size; omega) hBR))
        clear hg
        go_wp2
        rw [Exit.noGoto_ret]
        go_ret2
        exact ApRet.nil HB3.out
      | ok pr =>
        obtain ⟨p, rest⟩ := pr
        have hpp := HP.out p rest hs
        rw [hs] at HSP
        by_cases hbig : n4 - (out.length : Int) < (p.length : Int)
        · have HR : Hid (ap z1 z2 = ([], 16)) := Lib.hid (by rw [HRUN.out, run_big _ _ _ _ hz hs hbig])
          rw [HR.out]
          clear HRUN hs hbd
          go_wp2_with fail
          refine HSP.out.mono ?_
          rintro e w3 ⟨pa, pl, pc, rfl, hsl, hpn, hst3, hg⟩
          have hpl := hsl.hlen
          have hpc := hsl.hreach
          have hpc2 := hsl.hcap
          have HB3 := Lib.hid (HB.out.trans (below_of_grown hg (by have := HB.out.size; omega) hBR))
          rw [hpl] at hbig hpp
          clear hg hsl hpn hst3 hpl
          go_wp2
          rw [Exit.noGoto_ret]
          go_ret2
          exact ApRet.nil HB3.out
        · have HR : Hid (ap z1 z2 = run z1 n4 (rest.length + 1) rest (out ++ p)) := Lib.hid (by rw [HRUN.out, run_on _ _ _ _ hz hs hbig])
          have hrest := step_rest hs (by omega)
          clear HRUN hs hbd
          go_wp2_with fail
          refine HSP.out.mono ?_
          rintro e w3 ⟨pa, pl, pc, rfl, hsl, hpn, hst3, hg⟩
          have hpl := hsl.hlen
          have hpc := hsl.hreach
          have hpc2 := hsl.hcap
          have HB3 := Lib.hid (HB.out.trans (below_of_grown hg (by have := HB.out.size; omega) hBR))
          rw [hpl] at hbig hpp
          obtain ⟨pb, po, rfl, hp0⟩ := hsl.hcell 0 (by omega)
          have hsz3 : R < w3.heap.size := by have := hg.size; omega
          have HST3 := Lib.hid hst3
          have HOW3 := Lib.hid (HOW.out.kept hg (by
            cases ho : (Value.slice A out.length C).ownBlock with
            | none => exact .inl rfl
            | some k => right; have := HOWN.out k ho; intro e; cases e; omega))
          have HNW : Hid (∀ j u, (bv p)[j]? = some u → w3.cell? (Addr.add ⟨pb, po, none⟩ j) = some u) := Lib.hid (by
            intro j u hj
            obtain ⟨hj1, hj2⟩ := List.getElem?_eq_some_iff.1 hj
            rw [bv, List.length_map, hpl] at hj1
            obtain ⟨b, off, he, hc⟩ := hsl.hcell j hj1
            simp only [Option.some.injEq, Addr.mk.injEq, and_true] at he
            obtain ⟨rfl, rfl⟩ := he
            rw [show Addr.add ⟨pb, po, none⟩ j = (⟨pb, po + j, none⟩ : Addr) from by simp [Addr.add], hc, ← hj2]
            have : j < p.length := by omega
            simp [bv, this])
          have HPL := Lib.hid hpl
          have HPN := Lib.hid (hpn pb po rfl (by omega))
          clear hg hsl hpn hst3 hpl hp0 HST HOW
          go_wp2_with (at_builtin; refine wpList_append_own _ rfl _ _ 22 rfl (R + 1) 5 i0 (.int .u8 0) 1 1 Try.underlying22 hi hz0 hz1 hz2 rfl (by decide) _ _ _ rfl HOW3.out ⟨pb, po, none⟩ pl pc (bv p) rfl ?c1 HNW.out (bv_one _) ?c3 ?c4 ?c5 ?_)
          case c1 => rw [bv, List.length_map, HPL.out]; omega
          case c3 => unfold maxLen; omega
          case c4 => omega
          case c5 => omega
          intro v4 w4 ho hg4 hn4'
          have HST4 := Lib.hid (HST3.out.grown hg4 (fun k hk => by have := HOWN.out k hk; omega))
          have HB4 := Lib.hid (HB3.out.trans (below_grown (by have := HB3.out.size; omega) (own_base HOW3.out (by omega)) hg4))
          have HOW4 : Hid (w4.ownsRow (R + 1) 5 1 v4 (out ++ p).length (bv (out ++ p))) := Lib.hid (own_conv ho (by simp [bv]))
          have hsz4 : R < w4.heap.size := by have := hg4.size; omega
          have hout4 : ((out ++ p).length : Int) ≤ n4 := by rw [List.length_append, HPL.out]; omega
          clear ho hg4 hn4' HST3 HB3 HOW3 HNW HOWN
          go_wp2
          go_roundg rest.length
          case measure => have := HK.out; omega
          case rel => exact ⟨rest, out ++ p, Lib.hid rfl, HST4, HOW4, HB4, HR, hout4, hsz4⟩
end Go.Proofs.Ytkelgaanehihbaa.Dt
