/- The walk of MergeApart. By an AI agent; no person has read it. -/
import Derived.Test.YtlaneilmffdahaaMgApS
import Derived.Test.YtlaneilmffdahaaMgKnown
import Derived.Test.YtlaneilmffdahaaMgWithin
namespace Go.Proofs.Ytlaneilmffdahaa.Mg
open Go.RowKit Go.Proofs.Ytlaneilmffdahaa.Ln
set_option linter.unusedVariables false

theorem rd_num {w : World} {B : Nat} {a : Option Addr} {n cap : Nat} {l : List Int} (h : Rd w B a n cap (iv l)) (i : Nat) (hi : i < n) : ∃ b off, a = some ⟨b, off, none⟩ ∧ b < B ∧ w.cell? ⟨b, off + i, none⟩ = some (.int .i64 (l.getD i 0)) := by
  obtain ⟨b, off, v, ha, hb, hx, hc⟩ := h.hcell i hi
  have hl : i < l.length := by have := h.hlen; simp [iv] at this; omega
  rw [show (iv l)[i]? = some (.int .i64 (l.getD i 0)) from by simp [iv, hl]] at hx
  simp only [Option.some.injEq] at hx
  exact ⟨b, off, ha, hb, by rw [hc, hx]⟩
def ApOk (N : Nat) (fs ts : List Bool) : Prop := ∀ i j, i < N → j < N → fs.getD i false = true → ts.getD j false = true → i + 2 ≤ j ∨ j + 2 ≤ i
theorem apok_set {N q : Nat} {fs ts : List Bool} (h : ApOk N fs ts) (h0 : fs.getD q false = false) (h1 : ∀ p, p + 1 = q → fs.getD p false = false) (h2 : q + 1 < N → fs.getD (q + 1) false = false) : ApOk N fs (ts.set q true) := by
  intro i j hi hj hf hg
  by_cases e : q = j
  · subst e
    have a0 : i ≠ q := fun e => by rw [e, h0] at hf; cases hf
    have a1 : i + 1 ≠ q := fun e => by rw [h1 i e] at hf; cases hf
    have a2 : i ≠ q + 1 := fun e => by rw [e, h2 (by omega)] at hf; cases hf
    omega
  · refine h i j hi hj hf ?_
    rw [List.getD_eq_getElem?_getD, List.getElem?_set_ne e, ← List.getD_eq_getElem?_getD] at hg
    exact hg
theorem apok_rep (N : Nat) (fs : List Bool) : ApOk N fs (List.replicate N false) := by
  intro i j hi hj hf hg
  rw [List.getD_eq_getElem?_getD, List.getElem?_replicate] at hg
  split at hg <;> simp at hg
theorem conv_one (w : World) (c : Int) : (convert 32 9 (.slice (some ⟨w.heap.size, 0, none⟩) 1 1)).run Try.prog (w.alloc (.cells #[.int .u8 c] 5)) = .ok (.string (sb [c])) (w.alloc (.cells #[.int .u8 c] 5)) :=
  conv_rd (l := [c]) (rd_new w (.int .u8 c) 5)
theorem str_cells {l : List Int} (h : ∀ x ∈ l, 0 ≤ x ∧ x ≤ 255) : Lib.strCells (sb l) = bv l := by
  have e1 := ints_sb [l] (by intro y hy; rw [List.mem_singleton.1 hy]; exact h)
  have e2 := cells_ints [sb l]
  simp only [List.map_cons, List.map_nil, List.flatten_cons, List.flatten_nil, List.append_nil] at e1
  rw [e1] at e2
  simpa [cells] using e2
theorem cells_add (a b : ByteArray) : Lib.strCells (a ++ b) = Lib.strCells a ++ Lib.strCells b := by
  simp [Lib.strCells]
theorem sO : Lib.strCells ⟨#[111, 117, 114, 115, 32]⟩ = bv pO := rfl
theorem sT : Lib.strCells ⟨#[116, 104, 101, 105, 114, 115, 32]⟩ = bv pT := rfl
theorem sN : Lib.strCells ⟨#[10]⟩ = bv [10] := rfl
theorem s_line {k : Nat} (hk : k ≤ 30) : Lib.strCells (sb [65 + (k : Int)] ++ ⟨#[10]⟩) = bv (xa k) := by
  rw [cells_add, str_cells (by intro x hx; simp at hx; omega), sN]
  rfl
theorem s_ours {k : Nat} (hk : k ≤ 30) : Lib.strCells (⟨#[111, 117, 114, 115, 32]⟩ ++ (sb [65 + (k : Int)] ++ ⟨#[10]⟩)) = bv (pO ++ xa k) := by
  rw [cells_add, s_line hk, sO, bv_append]
theorem s_theirs {k : Nat} (hk : k ≤ 30) : Lib.strCells (⟨#[116, 104, 101, 105, 114, 115, 32]⟩ ++ (sb [65 + (k : Int)] ++ ⟨#[10]⟩)) = bv (pT ++ xa k) := by
  rw [cells_add, s_line hk, sT, bv_append]

set_option maxRecDepth 100000 in
set_option maxHeartbeats 4000000 in
theorem walk_apart (w : World) (n0 : Int) (m1 : -9223372036854775808 ≤ n0) (m2 : n0 ≤ 9223372036854775807) (a1 : Option Addr) (len1 cap1 : Nat) (z1 : List Int) (a2 : Option Addr) (len2 cap2 : Nat) (z2 : List Int)
    (r1 : Rd w w.heap.size a1 len1 cap1 (iv z1)) (r2 : Rd w w.heap.size a2 len2 cap2 (iv z2))
    (b1 : ∀ x ∈ z1, -9223372036854775808 ≤ x ∧ x ≤ 9223372036854775807) (b2 : ∀ x ∈ z2, -9223372036854775808 ≤ x ∧ x ≤ 9223372036854775807) :
    Calls Try.prog 8 #[.int .i64 n0, .slice a1 len1 cap1, .slice a2 len2 cap2] w fun e w' => e = .returned (.bool true) ∧ Below w.heap.size w w' := by
  have HK := Lib.hid (known_any w)
  have RR := Lib.hid (fun (wx : World) (hb : Below w.heap.size w wx) => (show Rd wx w.heap.size a1 len1 cap1 (iv z1) ∧ Rd wx w.heap.size a2 len2 cap2 (iv z2) from ⟨r1.below hb, r2.below hb⟩))
  have q1 := r1.hcap
  have q2 := r1.hmax
  have q3 := r2.hcap
  have q4 := r2.hmax
  have G1 := Lib.hid (fun i => (show -9223372036854775808 ≤ z1.getD i 0 ∧ z1.getD i 0 ≤ 9223372036854775807 from by
    by_cases h : i < z1.length
    · rw [List.getD_eq_getElem?_getD, List.getElem?_eq_getElem h]; exact b1 _ (List.getElem_mem h)
    · rw [List.getD_eq_getElem?_getD, List.getElem?_eq_none (by omega)]; exact ⟨by decide, by decide⟩))
  have G2 := Lib.hid (fun i => (show -9223372036854775808 ≤ z2.getD i 0 ∧ z2.getD i 0 ≤ 9223372036854775807 from by
    by_cases h : i < z2.length
    · rw [List.getD_eq_getElem?_getD, List.getElem?_eq_getElem h]; exact b2 _ (List.getElem_mem h)
    · rw [List.getD_eq_getElem?_getD, List.getElem?_eq_none (by omega)]; exact ⟨by decide, by decide⟩))
  clear r1 r2 b1 b2
  go_enter Try.func8, Try.ntmps8
  go_wp2_with fail
  refine HK.out.mono ?_
  rintro e w1 ⟨rfl, hb1⟩
  have HB1 := Lib.hid hb1
  have hz1 := HB1.out.size
  clear HK hb1
  go_wp2_with fail
  refine (Wi.within_nat n0 30 30 w1 rfl (by decide) (by decide) m1 m2).mono ?_
  rintro e w2 ⟨K, hK, rfl, rfl⟩
  go_wp2_with (refine wpList_make_bools _ rfl _ _ rfl _ _ (K + 1) rfl rfl (by omega) (by omega) (by omega) w.heap.size hz1 ?_)
  intro g1 w2 hg1 ho2 hb2 hz2
  have HB2 := Lib.hid (HB1.out.trans (hb2.mono hz1))
  have HO2 := Lib.hid ho2
  clear ho2 hb2 HB1
  go_wp2_with (refine wpList_make_bools _ rfl _ _ rfl _ _ (K + 1) rfl rfl (by omega) (by omega) (by omega) w.heap.size (by omega) ?_)
  intro g2 w3 hg2 ho3 hb3 hz3
  have HB3 := Lib.hid (HB2.out.trans (hb3.mono (by omega)))
  have HO2' := Lib.hid (own_keep HO2.out hb3)
  have HO3 := Lib.hid ho3
  clear ho3 hb3 HB2 HO2
  have hgg : g1 < g2 := by have := hg1.out; have := hg2.out; omega
  have hwg : w.heap.size ≤ g1 := by have := hg1.out; omega
  clear hz1 hz2 hz3 hg1 hg2
  go_upto_block 0 with fail
  go_cut [9] (fun s9 wr => ∃ (fs : List Bool), Hid (wr.ownsRow w.heap.size 4 1 (.slice (some ⟨g1, 0, none⟩) (K + 1) (K + 1)) (K + 1) (tv' fs)) ∧ Hid (wr.ownsRow w.heap.size 4 1 (.slice (some ⟨g2, 0, none⟩) (K + 1) (K + 1)) (K + 1) (tv' (List.replicate (K + 1) false))) ∧ Hid (Below w.heap.size w wr))
  case first =>
    go_wp2_with fail
    go_loopw [9] (fun s9 wr => ∃ (k : Nat) (fs : List Bool), s9 = .int .i64 (k : Int) ∧ k ≤ len1 ∧ Hid (wr.ownsRow w.heap.size 4 1 (.slice (some ⟨g1, 0, none⟩) (K + 1) (K + 1)) (K + 1) (tv' fs)) ∧ Hid (wr.ownsRow w.heap.size 4 1 (.slice (some ⟨g2, 0, none⟩) (K + 1) (K + 1)) (K + 1) (tv' (List.replicate (K + 1) false))) ∧ Hid (Below w.heap.size w wr)) (fun s9 _ => len1 - (intOf s9).toNat)
    case atStart => exact ⟨0, _, rfl, Nat.zero_le _, HO2', HO3, HB3⟩
    case round =>
      clear HO2' HO3 HB3
      obtain ⟨k, fs, rfl, hk, HF, HT, HB⟩ := hrel
      by_cases hlt : k < len1
      · by_cases h10 : k < 10
        · obtain ⟨b, off, rfl, hbb, hc⟩ := rd_num (RR.out _ HB.out).1 k hlt
          have HW := Lib.hid (fun m (hm : m = ((K + 1 : Nat) : Int)) => Wi.within_nat (z1.getD k 0) m (K + 1) wr hm (by omega) (by omega) (G1.out k).1 (G1.out k).2)
          generalize z1.getD k 0 = z at *
          go_wp2_with fail
          refine (HW.out _ (by omega)).mono ?_
          rintro e w5 ⟨q, hq, rfl, rfl⟩
          clear HW
          obtain ⟨c1, c2⟩ := own_at HF.out q hq
          have hput := own_put HF.out q true
          have HF' := Lib.hid hput.1
          have HT' := Lib.hid (own_off HT.out hput.2 (by omega))
          have HB' := Lib.hid (HB.out.trans (below_only hput.2 hwg HB.out.size))
          clear hput HF HT HB
          go_wp2
          go_roundw
          case rel => exact ⟨k + 1, fs.set q true, by go_num, by omega, HF', HT', HB'⟩
          case measure => simp [intOf]; omega
        · go_wp2
          go_meet
          case rel => exact ⟨fs, HF, HT, HB⟩
      · go_wp2
        go_meet
        case rel => exact ⟨fs, HF, HT, HB⟩
  case rest =>
    obtain ⟨fs, HF, HT, HB⟩ := hcut
    clear HO2' HO3 HB3 q1 q2
    go_upto_block 2 with fail
    go_cut [10, 11] (fun s10 s11 wr => ∃ (ts : List Bool), Hid (wr.ownsRow w.heap.size 4 1 (.slice (some ⟨g1, 0, none⟩) (K + 1) (K + 1)) (K + 1) (tv' fs)) ∧ Hid (wr.ownsRow w.heap.size 4 1 (.slice (some ⟨g2, 0, none⟩) (K + 1) (K + 1)) (K + 1) (tv' ts)) ∧ Hid (ApOk (K + 1) fs ts) ∧ Hid (Below w.heap.size w wr))
    case first =>
      go_wp2_with fail
      go_loopw [10, 11] (fun s10 s11 wr => ∃ (k : Nat) (ts : List Bool), s10 = .int .i64 (k : Int) ∧ k ≤ len2 ∧ Hid (wr.ownsRow w.heap.size 4 1 (.slice (some ⟨g1, 0, none⟩) (K + 1) (K + 1)) (K + 1) (tv' fs)) ∧ Hid (wr.ownsRow w.heap.size 4 1 (.slice (some ⟨g2, 0, none⟩) (K + 1) (K + 1)) (K + 1) (tv' ts)) ∧ Hid (ApOk (K + 1) fs ts) ∧ Hid (Below w.heap.size w wr)) (fun s10 _ _ => len2 - (intOf s10).toNat)
      case atStart => exact ⟨0, _, rfl, Nat.zero_le _, HF, HT, Lib.hid (apok_rep _ _), HB⟩
      case round =>
        clear HF HT HB
        obtain ⟨k, ts, rfl, hk, HF, HT, HA, HB⟩ := hrel
        by_cases hlt : k < len2
        · by_cases h10 : k < 10
          · obtain ⟨b, off, rfl, hbb, hc⟩ := rd_num (RR.out _ HB.out).2 k hlt
            have HW := Lib.hid (fun m (hm : m = ((K + 1 : Nat) : Int)) => Wi.within_nat (z2.getD k 0) m (K + 1) wr hm (by omega) (by omega) (G2.out k).1 (G2.out k).2)
            generalize z2.getD k 0 = z at *
            go_wp2_with fail
            refine (HW.out _ (by omega)).mono ?_
            rintro e w5 ⟨q, hq, rfl, rfl⟩
            clear HW
            obtain ⟨c1, -⟩ := own_at HF.out q hq
            obtain ⟨d1, d2⟩ := own_at HT.out q hq
            cases e0 : fs.getD q false
            · rw [e0] at c1
              have hput := own_put HT.out q true
              have HT' := Lib.hid hput.1
              have HF' := Lib.hid (own_off HF.out hput.2 (by omega))
              have HB' := Lib.hid (HB.out.trans (below_only hput.2 (by omega) HB.out.size))
              clear hput
              rcases Nat.eq_zero_or_pos q with hq0 | hq0
              · subst hq0
                by_cases hl : 0 + 1 < K + 1
                · obtain ⟨c3, -⟩ := own_at HF.out (0 + 1) hl
                  cases e2 : fs.getD (0 + 1) false
                  · rw [e2] at c3
                    have HA' := Lib.hid (apok_set (q := 0) HA.out e0 (fun p hp => by omega) (fun _ => e2))
                    clear HF HT HB HA e0 e2
                    go_wp2
                    go_roundw
                    case rel => exact ⟨k + 1, ts.set 0 true, by go_num, by omega, HF', HT', HA', HB'⟩
                    case measure => simp [intOf]; omega
                  · rw [e2] at c3
                    clear HF' HT' HB' e0 e2
                    go_wp2
                    go_roundw
                    case rel => exact ⟨k + 1, ts, by go_num, by omega, HF, HT, HA, HB⟩
                    case measure => simp [intOf]; omega
                · have HA' := Lib.hid (apok_set (q := 0) HA.out e0 (fun p hp => by omega) (fun h => by omega))
                  clear HF HT HB HA e0
                  have hle : ((1 : Int) == 1 + (K : Int)) = true := by simp; omega
                  clear hl
                  go_wp2
                  go_roundw
                  case rel => exact ⟨k + 1, ts.set 0 true, by go_num, by omega, HF', HT', HA', HB'⟩
                  case measure => simp [intOf]; omega
              · obtain ⟨p, rfl⟩ : ∃ p, q = p + 1 := ⟨q - 1, by omega⟩
                obtain ⟨c4, -⟩ := own_at HF.out p (by omega)
                cases e1 : fs.getD p false
                · rw [e1] at c4
                  by_cases hl : p + 1 + 1 < K + 1
                  · obtain ⟨c3, -⟩ := own_at HF.out (p + 1 + 1) hl
                    cases e2 : fs.getD (p + 1 + 1) false
                    · rw [e2] at c3
                      have HA' := Lib.hid (apok_set (q := p + 1) HA.out e0 (fun p' hp => by rw [Nat.add_right_cancel hp]; exact e1) (fun _ => e2))
                      clear HF HT HB HA e0 e1 e2
                      go_wp2
                      go_roundw
                      case rel => exact ⟨k + 1, ts.set (p + 1) true, by go_num, by omega, HF', HT', HA', HB'⟩
                      case measure => simp [intOf]; omega
                    · rw [e2] at c3
                      clear HF' HT' HB' e0 e1 e2
                      go_wp2
                      go_roundw
                      case rel => exact ⟨k + 1, ts, by go_num, by omega, HF, HT, HA, HB⟩
                      case measure => simp [intOf]; omega
                  · have HA' := Lib.hid (apok_set (q := p + 1) HA.out e0 (fun p' hp => by rw [Nat.add_right_cancel hp]; exact e1) (fun h => by omega))
                    clear HF HT HB HA e0 e1
                    have hle : K + 1 ≤ p + 1 + 1 := by omega
                    go_wp2
                    go_roundw
                    case rel => exact ⟨k + 1, ts.set (p + 1) true, by go_num, by omega, HF', HT', HA', HB'⟩
                    case measure => simp [intOf]; omega
                · rw [e1] at c4
                  clear HF' HT' HB' e0 e1
                  go_wp2
                  go_roundw
                  case rel => exact ⟨k + 1, ts, by go_num, by omega, HF, HT, HA, HB⟩
                  case measure => simp [intOf]; omega
            · rw [e0] at c1
              go_wp2
              go_roundw
              case rel => exact ⟨k + 1, ts, by go_num, by omega, HF, HT, HA, HB⟩
              case measure => simp [intOf]; omega
          · go_wp2
            go_meet
            case rel => exact ⟨ts, HF, HT, HA, HB⟩
        · go_wp2
          go_meet
          case rel => exact ⟨ts, HF, HT, HA, HB⟩
    case rest =>
      clear HF HT HB
      obtain ⟨ts, HF, HT, HA, HB⟩ := hcut
      clear q3 q4
      obtain ⟨f, hf⟩ : ∃ f : Nat → Bool, f = fun i => fs.getD i false := ⟨_, rfl⟩
      obtain ⟨g, hg⟩ : ∃ g : Nat → Bool, g = fun i => ts.getD i false := ⟨_, rfl⟩
      have Hf := Lib.hid hf
      have Hg := Lib.hid hg
      clear hf hg
      have hMA := Lib.hid (merge_apart (n := K + 1) (by omega) f g (by rw [Hf.out, Hg.out]; exact HA.out))
      clear HA
      have hzc := HB.out.size
      have hF4 := Lib.hid (RB.four wc.heap.size wc)
      go_wp2_with fail
      go_loopw [12, 13, 14, 15, 16, 17, 18, 19, 20] (fun s12 s13 s14 s15 s16 s17 s18 s19 s20 wr => ∃ (k : Nat) (Aa Ab Ac Ad : Option Addr) (na nb nc nd Ca Cb Cc Cd : Nat), k ≤ K + 1 ∧ s12 = .slice Aa na Ca ∧ s13 = .slice Ab nb Cb ∧ s14 = .slice Ac nc Cc ∧ s15 = .slice Ad nd Cd ∧ s16 = .int .i64 (k : Int) ∧ Hid ((cat xa k).length = na ∧ (cat (xb f) k).length = nb ∧ (cat (xc g) k).length = nc ∧ (cat (xd f g) k).length = nd) ∧ Hid (RB wc.heap.size wr [(.slice Aa na Ca, cat xa k), (.slice Ab nb Cb, cat (xb f) k), (.slice Ac nc Cc, cat (xc g) k), (.slice Ad nd Cd, cat (xd f g) k)]) ∧ Hid (Below wc.heap.size wc wr)) (fun _ _ _ _ s16 _ _ _ _ _ => (K + 1) - (intOf s16).toNat)
      case atStart => exact ⟨0, none, none, none, none, 0, 0, 0, 0, 0, 0, 0, 0, Nat.zero_le _, rfl, rfl, rfl, rfl, rfl, Lib.hid ⟨rfl, rfl, rfl, rfl⟩, hF4, Lib.hid (Below.refl _ _)⟩
      case round =>
        clear hF4
        obtain ⟨k, Aa, Ab, Ac, Ad, na, nb, nc, nd, Ca, Cb, Cc, Cd, hk, rfl, rfl, rfl, rfl, rfl, HN, HR, HC⟩ := hrel
        by_cases hlt : k < K + 1
        · have hk30 : k ≤ 30 := by omega
          have hcv := conv_one wr (65 + (k : Int))
          have hsz : (sb [65 + (k : Int)]).size = 1 := by rw [sb_size]; rfl
          have EN := Lib.hid (s_line hk30)
          have EO := Lib.hid (s_ours hk30)
          have ET := Lib.hid (s_theirs hk30)
          have BA := Lib.hid ((Below.refl wr.heap.size wr).alloc (Nat.le_refl _) (.cells #[.int .u8 (65 + (k : Int))] 5))
          have HRa := Lib.hid (HR.out.belowW BA.out)
          have HCa := Lib.hid (HC.out.trans (BA.out.mono HC.out.size))
          have c1 := (own_at (own_keep (own_keep HF.out HC.out) (BA.out)) k hlt).1
          have c2 := (own_at (own_keep (own_keep HT.out HC.out) (BA.out)) k hlt).1
          rw [show fs.getD k false = f k from by rw [Hf.out]] at c1
          rw [show ts.getD k false = g k from by rw [Hg.out]] at c2
          have l1 := cat_len (h := xa) (n := k + 1) (fun i hi => xa_is (by omega))
          have l2 := cat_len (h := xb f) (n := k + 1) (fun i hi => xb_is f (by omega))
          have l3 := cat_len (h := xc g) (n := k + 1) (fun i hi => xc_is g (by omega))
          have l4 := cat_len (h := xd f g) (n := k + 1) (fun i hi => xd_is f g (by omega))
          rw [cat_succ] at l1 l2 l3 l4
          obtain ⟨ma, hma⟩ : ∃ m, (cat xa k ++ xa k).length = m := ⟨_, rfl⟩
          obtain ⟨mb, hmb⟩ : ∃ m, (cat (xb f) k ++ xb f k).length = m := ⟨_, rfl⟩
          obtain ⟨mc, hmc⟩ : ∃ m, (cat (xc g) k ++ xc g k).length = m := ⟨_, rfl⟩
          obtain ⟨md, hmd⟩ : ∃ m, (cat (xd f g) k ++ xd f g k).length = m := ⟨_, rfl⟩
          rw [hma] at l1
          rw [hmb] at l2
          rw [hmc] at l3
          rw [hmd] at l4
          have Hma := Lib.hid hma
          have Hmb := Lib.hid hmb
          have Hmc := Lib.hid hmc
          have Hmd := Lib.hid hmd
          clear hma hmb hmc hmd HR HC BA HN
          have hsw : wc.heap.size ≤ wr.heap.size + 1 := by have := HCa.out.size; simpa using this
          cases ef : f k
          · cases eg : g k
            · have XB := Lib.hid (show xb f k = xa k from by simp [xb, ef])
              have XC := Lib.hid (show xc g k = xa k from by simp [xc, eg])
              have XD := Lib.hid (show xd f g k = xa k from by simp [xd, xb, ef, eg])
              rw [ef] at c1
              rw [eg] at c2
              clear ef eg
              go_wp2_with (at_builtin; (refine wpList_append_rb _ rfl _ _ rfl wc.heap.size _ (cat xa k) rfl [] _ HRa.out _ rfl (xa k) EN.out ma Hma.out (by omega) (by simpa using hsw) ?_))
              intro A5 C5 w5 hr5 hb5
              have HR5 := Lib.hid hr5
              have HC5 := Lib.hid (HCa.out.trans hb5)
              clear hr5 hb5
              go_wp2_with (at_builtin; (refine wpList_append_rb _ rfl _ _ rfl wc.heap.size _ (cat (xb f) k) rfl [_] _ HR5.out _ rfl (xb f k) (by rw [XB.out]; exact EN.out) mb Hmb.out (by omega) HC5.out.size ?_))
              intro A6 C6 w6 hr6 hb6
              have HR6 := Lib.hid hr6
              have HC6 := Lib.hid (HC5.out.trans hb6)
              clear hr6 hb6
              go_wp2_with (at_builtin; (refine wpList_append_rb _ rfl _ _ rfl wc.heap.size _ (cat (xc g) k) rfl [_, _] _ HR6.out _ rfl (xc g k) (by rw [XC.out]; exact EN.out) mc Hmc.out (by omega) HC6.out.size ?_))
              intro A7 C7 w7 hr7 hb7
              have HR7 := Lib.hid hr7
              have HC7 := Lib.hid (HC6.out.trans hb7)
              clear hr7 hb7
              go_wp2_with (at_builtin; (refine wpList_append_rb _ rfl _ _ rfl wc.heap.size _ (cat (xd f g) k) rfl [_, _, _] _ HR7.out _ rfl (xd f g k) (by rw [XD.out]; exact EN.out) md Hmd.out (by omega) HC7.out.size ?_))
              intro A8 C8 w8 hr8 hb8
              have HR8 := Lib.hid hr8
              have HC8 := Lib.hid (HC7.out.trans hb8)
              clear hr8 hb8
              go_wp2
              go_roundw
              case rel => exact ⟨k + 1, A5, A6, A7, A8, ma, mb, mc, md, C5, C6, C7, C8, by omega, rfl, rfl, rfl, rfl, by go_num, Lib.hid (by simp only [cat_succ]; exact ⟨Hma.out, Hmb.out, Hmc.out, Hmd.out⟩), Lib.hid (by simp only [cat_succ]; exact HR8.out), HC8⟩
              case measure => simp [intOf]; omega
            · have XB := Lib.hid (show xb f k = xa k from by simp [xb, ef])
              have XC := Lib.hid (show xc g k = pT ++ xa k from by simp [xc, eg])
              have XD := Lib.hid (show xd f g k = pT ++ xa k from by simp [xd, eg])
              rw [ef] at c1
              rw [eg] at c2
              clear ef eg
              go_wp2_with (at_builtin; (refine wpList_append_rb _ rfl _ _ rfl wc.heap.size _ (cat xa k) rfl [] _ HRa.out _ rfl (xa k) EN.out ma Hma.out (by omega) (by simpa using hsw) ?_))
              intro A5 C5 w5 hr5 hb5
              have HR5 := Lib.hid hr5
              have HC5 := Lib.hid (HCa.out.trans hb5)
              clear hr5 hb5
              go_wp2_with (at_builtin; (refine wpList_append_rb _ rfl _ _ rfl wc.heap.size _ (cat (xb f) k) rfl [_] _ HR5.out _ rfl (xb f k) (by rw [XB.out]; exact EN.out) mb Hmb.out (by omega) HC5.out.size ?_))
              intro A6 C6 w6 hr6 hb6
              have HR6 := Lib.hid hr6
              have HC6 := Lib.hid (HC5.out.trans hb6)
              clear hr6 hb6
              go_wp2_with (at_builtin; (refine wpList_append_rb _ rfl _ _ rfl wc.heap.size _ (cat (xc g) k) rfl [_, _] _ HR6.out _ rfl (xc g k) (by rw [XC.out]; exact ET.out) mc Hmc.out (by omega) HC6.out.size ?_))
              intro A7 C7 w7 hr7 hb7
              have HR7 := Lib.hid hr7
              have HC7 := Lib.hid (HC6.out.trans hb7)
              clear hr7 hb7
              go_wp2_with (at_builtin; (refine wpList_append_rb _ rfl _ _ rfl wc.heap.size _ (cat (xd f g) k) rfl [_, _, _] _ HR7.out _ rfl (xd f g k) (by rw [XD.out]; exact ET.out) md Hmd.out (by omega) HC7.out.size ?_))
              intro A8 C8 w8 hr8 hb8
              have HR8 := Lib.hid hr8
              have HC8 := Lib.hid (HC7.out.trans hb8)
              clear hr8 hb8
              go_wp2
              go_roundw
              case rel => exact ⟨k + 1, A5, A6, A7, A8, ma, mb, mc, md, C5, C6, C7, C8, by omega, rfl, rfl, rfl, rfl, by go_num, Lib.hid (by simp only [cat_succ]; exact ⟨Hma.out, Hmb.out, Hmc.out, Hmd.out⟩), Lib.hid (by simp only [cat_succ]; exact HR8.out), HC8⟩
              case measure => simp [intOf]; omega
          · cases eg : g k
            · have XB := Lib.hid (show xb f k = pO ++ xa k from by simp [xb, ef])
              have XC := Lib.hid (show xc g k = xa k from by simp [xc, eg])
              have XD := Lib.hid (show xd f g k = pO ++ xa k from by simp [xd, xb, ef, eg])
              rw [ef] at c1
              rw [eg] at c2
              clear ef eg
              go_wp2_with (at_builtin; (refine wpList_append_rb _ rfl _ _ rfl wc.heap.size _ (cat xa k) rfl [] _ HRa.out _ rfl (xa k) EN.out ma Hma.out (by omega) (by simpa using hsw) ?_))
              intro A5 C5 w5 hr5 hb5
              have HR5 := Lib.hid hr5
              have HC5 := Lib.hid (HCa.out.trans hb5)
              clear hr5 hb5
              go_wp2_with (at_builtin; (refine wpList_append_rb _ rfl _ _ rfl wc.heap.size _ (cat (xb f) k) rfl [_] _ HR5.out _ rfl (xb f k) (by rw [XB.out]; exact EO.out) mb Hmb.out (by omega) HC5.out.size ?_))
              intro A6 C6 w6 hr6 hb6
              have HR6 := Lib.hid hr6
              have HC6 := Lib.hid (HC5.out.trans hb6)
              clear hr6 hb6
              go_wp2_with (at_builtin; (refine wpList_append_rb _ rfl _ _ rfl wc.heap.size _ (cat (xc g) k) rfl [_, _] _ HR6.out _ rfl (xc g k) (by rw [XC.out]; exact EN.out) mc Hmc.out (by omega) HC6.out.size ?_))
              intro A7 C7 w7 hr7 hb7
              have HR7 := Lib.hid hr7
              have HC7 := Lib.hid (HC6.out.trans hb7)
              clear hr7 hb7
              go_wp2_with (at_builtin; (refine wpList_append_rb _ rfl _ _ rfl wc.heap.size _ (cat (xd f g) k) rfl [_, _, _] _ HR7.out _ rfl (xd f g k) (by rw [XD.out]; exact EO.out) md Hmd.out (by omega) HC7.out.size ?_))
              intro A8 C8 w8 hr8 hb8
              have HR8 := Lib.hid hr8
              have HC8 := Lib.hid (HC7.out.trans hb8)
              clear hr8 hb8
              go_wp2
              go_roundw
              case rel => exact ⟨k + 1, A5, A6, A7, A8, ma, mb, mc, md, C5, C6, C7, C8, by omega, rfl, rfl, rfl, rfl, by go_num, Lib.hid (by simp only [cat_succ]; exact ⟨Hma.out, Hmb.out, Hmc.out, Hmd.out⟩), Lib.hid (by simp only [cat_succ]; exact HR8.out), HC8⟩
              case measure => simp [intOf]; omega
            · have XB := Lib.hid (show xb f k = pO ++ xa k from by simp [xb, ef])
              have XC := Lib.hid (show xc g k = pT ++ xa k from by simp [xc, eg])
              have XD := Lib.hid (show xd f g k = pT ++ xa k from by simp [xd, eg])
              rw [ef] at c1
              rw [eg] at c2
              clear ef eg
              go_wp2_with (at_builtin; (refine wpList_append_rb _ rfl _ _ rfl wc.heap.size _ (cat xa k) rfl [] _ HRa.out _ rfl (xa k) EN.out ma Hma.out (by omega) (by simpa using hsw) ?_))
              intro A5 C5 w5 hr5 hb5
              have HR5 := Lib.hid hr5
              have HC5 := Lib.hid (HCa.out.trans hb5)
              clear hr5 hb5
              go_wp2_with (at_builtin; (refine wpList_append_rb _ rfl _ _ rfl wc.heap.size _ (cat (xb f) k) rfl [_] _ HR5.out _ rfl (xb f k) (by rw [XB.out]; exact EO.out) mb Hmb.out (by omega) HC5.out.size ?_))
              intro A6 C6 w6 hr6 hb6
              have HR6 := Lib.hid hr6
              have HC6 := Lib.hid (HC5.out.trans hb6)
              clear hr6 hb6
              go_wp2_with (at_builtin; (refine wpList_append_rb _ rfl _ _ rfl wc.heap.size _ (cat (xc g) k) rfl [_, _] _ HR6.out _ rfl (xc g k) (by rw [XC.out]; exact ET.out) mc Hmc.out (by omega) HC6.out.size ?_))
              intro A7 C7 w7 hr7 hb7
              have HR7 := Lib.hid hr7
              have HC7 := Lib.hid (HC6.out.trans hb7)
              clear hr7 hb7
              go_wp2_with (at_builtin; (refine wpList_append_rb _ rfl _ _ rfl wc.heap.size _ (cat (xd f g) k) rfl [_, _, _] _ HR7.out _ rfl (xd f g k) (by rw [XD.out]; exact ET.out) md Hmd.out (by omega) HC7.out.size ?_))
              intro A8 C8 w8 hr8 hb8
              have HR8 := Lib.hid hr8
              have HC8 := Lib.hid (HC7.out.trans hb8)
              clear hr8 hb8
              go_wp2
              go_roundw
              case rel => exact ⟨k + 1, A5, A6, A7, A8, ma, mb, mc, md, C5, C6, C7, C8, by omega, rfl, rfl, rfl, rfl, by go_num, Lib.hid (by simp only [cat_succ]; exact ⟨Hma.out, Hmb.out, Hmc.out, Hmd.out⟩), Lib.hid (by simp only [cat_succ]; exact HR8.out), HC8⟩
              case measure => simp [intOf]; omega
        · obtain rfl : k = K + 1 := by omega
          obtain ⟨h1, h2, h3, h4⟩ := HN.out
          have ra := HR.out.get (List.mem_cons_self ..) h1
          have rb := HR.out.get (List.mem_cons_of_mem _ (List.mem_cons_self ..)) h2
          have rc := HR.out.get (List.mem_cons_of_mem _ (List.mem_cons_of_mem _ (List.mem_cons_self ..))) h3
          have rd := HR.out.get (List.mem_cons_of_mem _ (List.mem_cons_of_mem _ (List.mem_cons_of_mem _ (List.mem_cons_self ..)))) h4
          have ka : ∀ i, i < K + 1 → IsL (xa i) := fun i hi => xa_is (by omega)
          have kb : ∀ i, i < K + 1 → IsL (xb f i) := fun i hi => xb_is f (by omega)
          have kc : ∀ i, i < K + 1 → IsL (xc g i) := fun i hi => xc_is g (by omega)
          have kd : ∀ i, i < K + 1 → IsL (xd f g i) := fun i hi => xd_is f g (by omega)
          have l1 := cat_len ka
          have l2 := cat_len kb
          have l3 := cat_len kc
          have l4 := cat_len kd
          rw [h1] at l1
          rw [h2] at l2
          rw [h3] at l3
          rw [h4] at l4
          have sa : (spl (cat xa (K + 1))).length = K + 1 := by rw [spl_cat ka, len_map]
          have sb' : (spl (cat (xb f) (K + 1))).length = K + 1 := by rw [spl_cat kb, len_map]
          have sc : (spl (cat (xc g) (K + 1))).length = K + 1 := by rw [spl_cat kc, len_map]
          have HM := Lib.hid (merge_any Aa na Ca _ Ab nb Cb _ Ac nc Cc _ wr ((Rd.of_own ra (by omega)).1) ((Rd.of_own rb (by omega)).1) ((Rd.of_own rc (by omega)).1) (cat_byte ka) (cat_byte kb) (cat_byte kc) (by omega) (by omega) (by omega) (by omega) (by omega) (by omega))
          have RD := Lib.hid rd
          have HBr := Lib.hid (HB.out.trans (HC.out.mono hzc))
          have hzr := HBr.out.size
          have H4 := Lib.hid h4
          clear ra rb rc rd ka kb kc kd l1 l2 l3 h1 h2 h3 h4 sa sb' sc HN HF HT HB
          go_wp2_with fail
          refine HM.out.mono ?_
          rintro e w5 hr
          obtain ⟨A5, C5, rfl, HO5, hb5⟩ := hr.conv (cat (xd f g) (K + 1)) nd true hMA.out H4.out
          have cv1 := conv_row HO5.out (by omega)
          have cv2 := conv_row (own_keep RD.out hb5.out) (by omega)
          have HB5 := Lib.hid (HBr.out.trans (hb5.out.mono hzr))
          have hq : ((sb (cat (xd f g) (K + 1))).toList == (sb (cat (xd f g) (K + 1))).toList) = true := by simp
          clear hr hb5 HO5 RD HM hMA H4 HBr HR HC hzr hzc
          generalize sb (cat (xd f g) (K + 1)) = s at *
          go_wp2_with fail
          go_ret
          exact ⟨rfl, HB5.out⟩
end Go.Proofs.Ytlaneilmffdahaa.Mg
