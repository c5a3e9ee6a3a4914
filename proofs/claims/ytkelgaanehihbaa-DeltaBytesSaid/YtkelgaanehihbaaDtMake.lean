/- delta.Make, walked: what it answers, of any bytes. -/
import Derived.Test.YtkelgaanehihbaaDtNum
namespace Go.Proofs.Ytkelgaanehihbaa.Dt
open Go.RowKit
set_option linter.unusedVariables false

theorem Sl.drop {w : World} {a : Option Addr} {len cap : Nat} {zs : List Int} (h : Sl w a len cap zs) (k : Nat) (hk : k ≤ len) :
    Sl w (if cap = k then a else Option.map (fun x => x.add k) a) (len - k) (cap - k) (zs.drop k) := by
  have h1 := h.hcap
  have h2 := h.hreach
  refine ⟨by rw [List.length_drop, h.hlen], by omega, by omega, ?_, ?_, ?_, by have := h.hbig; omega⟩
  · intro hn
    split at hn
    · have := h.hnone hn; omega
    · have : a = none := by simpa using hn
      have := h.hnone this; omega
  · intro i hi
    obtain ⟨b, off, rfl, hc⟩ := h.hcell (k + i) (by omega)
    refine ⟨b, off + k, ?_, ?_⟩
    · rw [if_neg (by omega)]; simp [Addr.add]
    · rw [Nat.add_assoc, hc]; simp [List.getD]
  · intro i hi
    have := h.hbyte (k + i) (by omega)
    simpa [List.getD] using this

theorem Sl.take {w : World} {a : Option Addr} {len cap : Nat} {zs : List Int} (h : Sl w a len cap zs) (k : Nat) (hk : k ≤ len) :
    Sl w a k cap (zs.take k) := by
  have h1 := h.hcap
  have h2 := h.hreach
  refine ⟨by rw [List.length_take, h.hlen]; omega, by omega, by omega, h.hnone, ?_, ?_, by have := h.hbig; omega⟩
  · intro i hi
    obtain ⟨b, off, rfl, hc⟩ := h.hcell i (by omega)
    refine ⟨b, off, rfl, ?_⟩
    rw [hc]; simp [List.getD, hi]
  · intro i hi
    have := h.hbyte i (by omega)
    simpa [List.getD, hi] using this

theorem Sl.drawn {w : World} {a : Option Addr} {len cap : Nat} {zs : List Int} (h : Sl w a len cap zs) (n : Nat) : Sl (w.drewN n) a len cap zs :=
  ⟨h.hlen, h.hcap, h.hreach, h.hnone, h.hcell, h.hbyte, h.hbig⟩

theorem Sl.kept {w w' : World} {B : Nat} {a : Option Addr} {len cap : Nat} {zs : List Int} (h : Sl w a len cap zs) (hb : Below B w w') (hlt : ∀ b off, a = some ⟨b, off, none⟩ → 0 < len → b < B) : Sl w' a len cap zs := by
  refine ⟨h.hlen, h.hcap, h.hreach, h.hnone, ?_, h.hbyte, h.hbig⟩
  intro i hi
  obtain ⟨b, off, ha, hc⟩ := h.hcell i hi
  exact ⟨b, off, ha, by rw [← hc]; exact hb.cell (p := ⟨b, off + i, none⟩) (hlt b off ha (by omega))⟩

theorem quiet_left {P : Program} {f : FuncId} {args : Array Value} {w : World} {n : Nat} {v : Value}
    (h : Calls P f args (w.drewN n) fun e w' => e = .returned v ∧ ∃ m, w' = (w.drewN n).drewN m) : Calls P f args (w.drewN n) fun e w'' => e = .returned v ∧ ∃ m, w'' = w.drewN m :=
  h.mono fun _ _ ⟨he, m, hm⟩ => ⟨he, n + m, by rw [hm, World.drewN_drewN]⟩

theorem below_drewN {B : Nat} {w w' : World} (h : Below B w w') (n : Nat) : Below B w (w'.drewN n) := ⟨h.os, h.tape, h.output, h.size, h.block⟩

/-- the steps, of p bytes at the beginning and s at the end -/
def mkW (l1 : Nat) (z2 : List Int) (p s : Nat) : List Int :=
  nb l1 ++ nb z2.length ++ (if 0 < p then 1 :: nb 0 ++ nb p else []) ++ (if 0 < z2.length - s - p then 2 :: nb ((z2.length - s - p : Nat) : Int) ++ (z2.drop p).take (z2.length - s - p) else []) ++ (if 0 < s then 1 :: nb ((l1 : Int) - (s : Int)) ++ nb s else [])

/-- what Make answers -/
def mk (z1 z2 : List Int) : List Int :=
  mkW z1.length z2 (cp z1 z2) (cp (z1.drop (cp z1 z2)).reverse (z2.drop (cp z1 z2)).reverse)

theorem mkW_len (l1 : Nat) (z2 : List Int) (p s : Nat) : (mkW l1 z2 p s).length ≤ z2.length + 31 := by
  unfold mkW nb
  simp only [List.length_append]
  split <;> split <;> split <;> simp <;> omega

theorem own_conv {w : World} {B e : Nat} {v : Value} {n : Nat} {xs : List Value} {l : List Int} (h : w.ownsRow B e 1 v n xs) (hx : xs = bv l) : w.ownsRow B e 1 v l.length (bv l) := by
  have h1 := h.1
  have : n = l.length := by rw [hx] at h1; simpa [bv] using h1.symm
  rw [← hx, ← this]
  exact h

theorem mid_cells {w w' : World} {B x2 o2 l2 c2 : Nat} {z2 : List Int} (h : Sl w (some ⟨x2, o2, none⟩) l2 c2 z2) (hlt : ∀ b off, some (⟨x2, o2, none⟩ : Addr) = some ⟨b, off, none⟩ → 0 < l2 → b < B) (hb : Below B w w') (p s : Nat) :
    ∀ j u, (bv ((z2.drop p).take (l2 - s - p)))[j]? = some u → w'.cell? (Addr.add ⟨x2, o2 + p, none⟩ j) = some u := by
  intro j u hj
  obtain ⟨hj1, hj2⟩ := List.getElem?_eq_some_iff.1 hj
  rw [bv, List.length_map, List.length_take, List.length_drop, h.hlen] at hj1
  have hk := h.kept hb hlt
  obtain ⟨b, off, he, hc⟩ := hk.hcell (p + j) (by omega)
  simp only [Option.some.injEq, Addr.mk.injEq, and_true] at he
  obtain ⟨rfl, rfl⟩ := he
  rw [show Addr.add ⟨x2, o2 + p, none⟩ j = (⟨x2, o2 + (p + j), none⟩ : Addr) from by simp [Addr.add, Nat.add_assoc], hc, ← hj2]
  have : p + j < z2.length := by rw [h.hlen]; omega
  simp [bv, this]

set_option maxHeartbeats 1000000 in
theorem mk_1 (B : Nat) (a1 : Option Addr) (l1 c1 : Nat) (z1 : List Int) (a2 : Option Addr) (l2 c2 : Nat) (z2 : List Int) (w : World) (h1 : Sl w a1 l1 c1 z1) (h2 : Sl w a2 l2 c2 z2) (hB : B ≤ w.heap.size)
    (hlt : ∀ b off, a2 = some ⟨b, off, none⟩ → 0 < l2 → b < B) (hr : l2 ≤ 140737488000000) (p s : Nat) (p1 : p ≤ l1) (p2 : p ≤ l2) (s1 : s ≤ l1 - p) (s2 : s ≤ l2 - p)
    (hc : Calls Try.prog 16 #[.slice a1 l1 c1, .slice a2 l2 c2] w fun e w' => e = .returned (.int .i64 (p : Int)) ∧ ∃ n, w' = w.drewN n)
    (he : ∀ A1 A2 W, Sl W A1 (l1 - p) (c1 - p) (z1.drop p) → Sl W A2 (l2 - p) (c2 - p) (z2.drop p) → Calls Try.prog 17 #[.slice A1 (l1 - p) (c1 - p), .slice A2 (l2 - p) (c2 - p)] W fun e w' => e = .returned (.int .i64 (s : Int)) ∧ ∃ n, w' = W.drewN n)
    (hp : 0 < p) (hm : 0 < l2 - s - p) (hs : 0 < s) :
    Calls Try.prog 10 #[.slice a1 l1 c1, .slice a2 l2 c2] w (OwnRet B (mkW l1 z2 p s).length (bv (mkW l1 z2 p s)) w) := by
  have H1 := Lib.hid h1
  have H2 := Lib.hid h2
  have HLT := Lib.hid hlt
  have b1 : l1 ≤ 140737488355328 := h1.hbig
  have g1 := h1.hcap
  have g2 := h2.hcap
  have g3 := h1.hreach
  have g4 := h2.hreach
  have HC := Lib.hid hc
  have HD1 := Lib.hid (h1.drop p p1)
  have HD2 := Lib.hid (h2.drop p p2)
  have HE := Lib.hid he
  have hz2 := h2.hlen
  have HM2 : Hid (mkW l1 z2 p s = nb l1 ++ nb l2 ++ (if 0 < p then 1 :: nb 0 ++ nb p else []) ++ (if 0 < l2 - s - p then 2 :: nb ((l2 - s - p : Nat) : Int) ++ (z2.drop p).take (l2 - s - p) else []) ++ (if 0 < s then 1 :: nb ((l1 : Int) - (s : Int)) ++ nb s else [])) := Lib.hid (by unfold mkW; rw [hz2])
  obtain ⟨i0, hi, hz0, hz1, hz2⟩ := info_parts info5
  clear h1 h2 hlt hc he
  go_enter Try.func10, Try.ntmps10
  go_wp2_with fail
  refine HC.out.mono ?_
  rintro e w' ⟨rfl, n, rfl⟩
  have HS1 := Lib.hid (HD1.out.drawn n); have HS2 := Lib.hid (HD2.out.drawn n); have HB0 := Lib.hid (below_drewN (Below.refl B w) n); have hB0 : B ≤ (w.drewN n).heap.size := hB
  clear HC
  generalize w.drewN n = W1 at HS1 HS2 HB0 hB0 ⊢
  go_wp2_with fail
  go_quiet ((go_at_call 17; exact quiet_left (HE.out _ _ _ (by first | exact HS1.out.drawn _ | (refine Sl.drawn ?_ _; have h := HS1.out; rw [if_neg (by omega)] at h; exact h)) (by first | exact HS2.out.drawn _ | (refine Sl.drawn ?_ _; have h := HS2.out; rw [if_neg (by omega)] at h; exact h)))))
  obtain ⟨x2, o2, rfl, -⟩ := H2.out.hcell p (by omega)
  have hcp : ¬ c2 = p := by omega
  go_wp2_with fail
  refine (number_any B _ 0 [] (l1 : Int) _ (by exact hB0) (World.ownsRow_nil _ B 5 1) (by omega) (by omega) (by omega)).mono ?_
  rintro e w1 ⟨v1, rfl, ho1, hn1, hb1⟩
  have HO1 := Lib.hid ho1; have HB1 := Lib.hid ((below_drewN HB0.out _).trans hb1)
  clear ho1 hn1 hb1
  go_wp2_with fail
  refine (number_any B v1 _ _ (l2 : Int) _ (by have := HB1.out.size; omega) HO1.out (by omega) (by omega) (by omega)).mono ?_
  rintro e w2 ⟨v2, rfl, ho, hn, hb⟩
  have HO2 := Lib.hid ho; have HN2 := Lib.hid hn; have HB2 := Lib.hid (HB1.out.trans hb)
  clear ho hn hb HO1 HB1
  go_wp2_with fail
  refine (copied_any B v2 _ _ 0 (p : Int) _ (by have := HB2.out.size; omega) HO2.out (by omega) (by omega) (by omega) (by omega) (by omega)).mono ?_
  rintro e w3 ⟨v3, rfl, ho, hn, hb⟩
  have HO3 := Lib.hid ho; have HN3 := Lib.hid hn; have HB3 := Lib.hid (HB2.out.trans hb)
  clear ho hn hb HO2 HB2
  go_wp2_with (at_builtin; refine wpList_append_own _ rfl _ _ 22 rfl B 5 i0 (.int .u8 0) 1 1 Try.underlying22 hi hz0 hz1 hz2 rfl (by decide) v3 _ _ rfl (HO3.out.alloc _) ⟨w3.heap.size, 0, none⟩ 1 1 (bv [2]) rfl rfl ?c1 (bv_one _) ?c3 ?c4 ?c5 ?_)
  case c1 => exact new_cells [2] w3 _
  case c3 => unfold maxLen; omega
  case c4 => omega
  case c5 => have := HB3.out.size; simp; omega
  intro v4 w4 ho hg hn
  have HO4 := Lib.hid ho; have HB4 := Lib.hid ((HB3.out.alloc (by have := HB3.out.size; omega) _).trans (below_grown (by have := HB3.out.size; simp; omega) (HO3.out.alloc _) hg))
  clear ho hg hn HO3 HB3
  go_wp2_with fail
  refine (number_any B v4 _ _ ((l2 - s - p : Nat) : Int) _ (by have := HB4.out.size; omega) HO4.out (by omega) (by omega) (by omega)).mono ?_
  rintro e w5 ⟨v5, rfl, ho, hn, hb⟩
  have HO5 := Lib.hid ho; have HN5 := Lib.hid hn; have HB5 := Lib.hid (HB4.out.trans hb)
  clear ho hn hb HO4 HB4
  have HNW : Hid (∀ j u, (bv ((z2.drop p).take (l2 - s - p)))[j]? = some u → w5.cell? (Addr.add ⟨x2, o2 + p, none⟩ j) = some u) := Lib.hid (mid_cells H2.out HLT.out HB5.out p s)
  go_wp2_with (at_builtin; refine wpList_append_own _ rfl _ _ 22 rfl B 5 i0 (.int .u8 0) 1 1 Try.underlying22 hi hz0 hz1 hz2 rfl (by decide) v5 _ _ rfl HO5.out ⟨x2, o2 + p, none⟩ (l2 - s - p) (c2 - p) (bv ((z2.drop p).take (l2 - s - p))) rfl ?c0 HNW.out (bv_one _) ?c3 ?c4 ?c5 ?_)
  case c0 => rw [bv, List.length_map, List.length_take, List.length_drop, H2.out.hlen]; omega
  case c3 => unfold maxLen; omega
  case c4 => omega
  case c5 => have := HB5.out.size; omega
  intro v6 w6 ho hg hn
  have HO6 := Lib.hid ho; have HN6 := Lib.hid (show v6 ≠ .slice none 0 0 from fun h => HN5.out (hn.1 h).1); have HB6 := Lib.hid (HB5.out.trans (below_grown (by have := HB5.out.size; omega) HO5.out hg))
  clear ho hg hn HO5 HB5
  go_wp2_with fail
  refine (copied_any B v6 _ _ ((l1 : Int) - (s : Int)) (s : Int) _ (by have := HB6.out.size; omega) HO6.out (by omega) (by omega) (by omega) (by omega) (by omega)).mono ?_
  rintro e w7 ⟨v7, rfl, ho, hn, hb⟩
  have HO7 := Lib.hid ho; have HN7 := Lib.hid hn; have HB7 := Lib.hid (HB6.out.trans hb)
  clear ho hn hb HO6 HB6
  go_wp2
  go_ret
  refine ⟨v7, rfl, ?_, HN7.out, HB7.out⟩
  exact own_conv HO7.out (by rw [HM2.out, if_pos hp, if_pos hm, if_pos hs]; simp [bv, nb])

set_option maxHeartbeats 1000000 in
theorem mk_2 (B : Nat) (a1 : Option Addr) (l1 c1 : Nat) (z1 : List Int) (a2 : Option Addr) (l2 c2 : Nat) (z2 : List Int) (w : World) (h1 : Sl w a1 l1 c1 z1) (h2 : Sl w a2 l2 c2 z2) (hB : B ≤ w.heap.size)
    (hlt : ∀ b off, a2 = some ⟨b, off, none⟩ → 0 < l2 → b < B) (hr : l2 ≤ 140737488000000) (p s : Nat) (p1 : p ≤ l1) (p2 : p ≤ l2) (s1 : s ≤ l1 - p) (s2 : s ≤ l2 - p)
    (hc : Calls Try.prog 16 #[.slice a1 l1 c1, .slice a2 l2 c2] w fun e w' => e = .returned (.int .i64 (p : Int)) ∧ ∃ n, w' = w.drewN n)
    (he : ∀ A1 A2 W, Sl W A1 (l1 - p) (c1 - p) (z1.drop p) → Sl W A2 (l2 - p) (c2 - p) (z2.drop p) → Calls Try.prog 17 #[.slice A1 (l1 - p) (c1 - p), .slice A2 (l2 - p) (c2 - p)] W fun e w' => e = .returned (.int .i64 (s : Int)) ∧ ∃ n, w' = W.drewN n)
    (hp : 0 < p) (hm : 0 < l2 - s - p) (hs : ¬ 0 < s) :
    Calls Try.prog 10 #[.slice a1 l1 c1, .slice a2 l2 c2] w (OwnRet B (mkW l1 z2 p s).length (bv (mkW l1 z2 p s)) w) := by
  obtain rfl : s = 0 := by omega
  simp only [Nat.sub_zero] at hm
  have H1 := Lib.hid h1
  have H2 := Lib.hid h2
  have HLT := Lib.hid hlt
  have b1 : l1 ≤ 140737488355328 := h1.hbig
  have g1 := h1.hcap
  have g2 := h2.hcap
  have g3 := h1.hreach
  have g4 := h2.hreach
  have HC := Lib.hid hc
  have HD1 := Lib.hid (h1.drop p p1)
  have HD2 := Lib.hid (h2.drop p p2)
  have HE := Lib.hid he
  have hz2 := h2.hlen
  have HM2 : Hid (mkW l1 z2 p 0 = nb l1 ++ nb l2 ++ (if 0 < p then 1 :: nb 0 ++ nb p else []) ++ (if 0 < l2 - p then 2 :: nb ((l2 - p : Nat) : Int) ++ (z2.drop p).take (l2 - p) else []) ++ (if 0 < 0 then 1 :: nb ((l1 : Int) - ((0 : Nat) : Int)) ++ nb ((0 : Nat) : Int) else [])) := Lib.hid (by unfold mkW; rw [hz2]; rfl)
  obtain ⟨i0, hi, hz0, hz1, hz2⟩ := info_parts info5
  clear h1 h2 hlt hc he
  go_enter Try.func10, Try.ntmps10
  go_wp2_with fail
  refine HC.out.mono ?_
  rintro e w' ⟨rfl, n, rfl⟩
  have HS1 := Lib.hid (HD1.out.drawn n); have HS2 := Lib.hid (HD2.out.drawn n); have HB0 := Lib.hid (below_drewN (Below.refl B w) n); have hB0 : B ≤ (w.drewN n).heap.size := hB
  clear HC
  generalize w.drewN n = W1 at HS1 HS2 HB0 hB0 ⊢
  go_wp2_with fail
  go_quiet ((go_at_call 17; exact quiet_left (HE.out _ _ _ (by first | exact HS1.out.drawn _ | (refine Sl.drawn ?_ _; have h := HS1.out; rw [if_neg (by omega)] at h; exact h)) (by first | exact HS2.out.drawn _ | (refine Sl.drawn ?_ _; have h := HS2.out; rw [if_neg (by omega)] at h; exact h)))))
  obtain ⟨x2, o2, rfl, -⟩ := H2.out.hcell p (by omega)
  have hcp : ¬ c2 = p := by omega
  go_wp2_with fail
  all_goals
    refine (number_any B _ 0 [] (l1 : Int) _ (by exact hB0) (World.ownsRow_nil _ B 5 1) (by omega) (by omega) (by omega)).mono ?_
    rintro e w1 ⟨v1, rfl, ho1, hn1, hb1⟩
    have HO1 := Lib.hid ho1; have HB1 := Lib.hid ((below_drewN HB0.out _).trans hb1)
    clear ho1 hn1 hb1
    go_wp2_with fail
    refine (number_any B v1 _ _ (l2 : Int) _ (by have := HB1.out.size; omega) HO1.out (by omega) (by omega) (by omega)).mono ?_
    rintro e w2 ⟨v2, rfl, ho, hn, hb⟩
    have HO2 := Lib.hid ho; have HN2 := Lib.hid hn; have HB2 := Lib.hid (HB1.out.trans hb)
    clear ho hn hb HO1 HB1
    go_wp2_with fail
    refine (copied_any B v2 _ _ 0 (p : Int) _ (by have := HB2.out.size; omega) HO2.out (by omega) (by omega) (by omega) (by omega) (by omega)).mono ?_
    rintro e w3 ⟨v3, rfl, ho, hn, hb⟩
    have HO3 := Lib.hid ho; have HN3 := Lib.hid hn; have HB3 := Lib.hid (HB2.out.trans hb)
    clear ho hn hb HO2 HB2
    go_wp2_with (at_builtin; refine wpList_append_own _ rfl _ _ 22 rfl B 5 i0 (.int .u8 0) 1 1 Try.underlying22 hi hz0 hz1 hz2 rfl (by decide) v3 _ _ rfl (HO3.out.alloc _) ⟨w3.heap.size, 0, none⟩ 1 1 (bv [2]) rfl rfl ?c1 (bv_one _) ?c3 ?c4 ?c5 ?_)
    case c1 => exact new_cells [2] w3 _
    case c3 => unfold maxLen; omega
    case c4 => omega
    case c5 => have := HB3.out.size; simp; omega
    intro v4 w4 ho hg hn
    have HO4 := Lib.hid ho; have HB4 := Lib.hid ((HB3.out.alloc (by have := HB3.out.size; omega) _).trans (below_grown (by have := HB3.out.size; simp; omega) (HO3.out.alloc _) hg))
    clear ho hg hn HO3 HB3
    go_wp2_with fail
    refine (number_any B v4 _ _ ((l2 - p : Nat) : Int) _ (by have := HB4.out.size; omega) HO4.out (by omega) (by omega) (by omega)).mono ?_
    rintro e w5 ⟨v5, rfl, ho, hn, hb⟩
    have HO5 := Lib.hid ho; have HN5 := Lib.hid hn; have HB5 := Lib.hid (HB4.out.trans hb)
    clear ho hn hb HO4 HB4
    have HNW : Hid (∀ j u, (bv ((z2.drop p).take (l2 - p)))[j]? = some u → w5.cell? (Addr.add ⟨x2, o2 + p, none⟩ j) = some u) := Lib.hid (mid_cells H2.out HLT.out HB5.out p 0)
    go_wp2_with (at_builtin; refine wpList_append_own _ rfl _ _ 22 rfl B 5 i0 (.int .u8 0) 1 1 Try.underlying22 hi hz0 hz1 hz2 rfl (by decide) v5 _ _ rfl HO5.out ⟨x2, o2 + p, none⟩ (l2 - p) (c2 - p) (bv ((z2.drop p).take (l2 - p))) rfl ?c0 HNW.out (bv_one _) ?c3 ?c4 ?c5 ?_)
    case c0 => rw [bv, List.length_map, List.length_take, List.length_drop, H2.out.hlen]; omega
    case c3 => unfold maxLen; omega
    case c4 => omega
    case c5 => have := HB5.out.size; omega
    intro v6 w6 ho hg hn
    have HO6 := Lib.hid ho; have HN6 := Lib.hid (show v6 ≠ .slice none 0 0 from fun h => HN5.out (hn.1 h).1); have HB6 := Lib.hid (HB5.out.trans (below_grown (by have := HB5.out.size; omega) HO5.out hg))
    clear ho hg hn HO5 HB5
    go_wp2
    go_ret
    refine ⟨v6, rfl, ?_, HN6.out, HB6.out⟩
    exact own_conv HO6.out (by rw [HM2.out, if_pos hp, if_pos hm, if_neg (Nat.lt_irrefl 0)]; simp [bv, nb])

set_option maxHeartbeats 1000000 in
theorem mk_3 (B : Nat) (a1 : Option Addr) (l1 c1 : Nat) (z1 : List Int) (a2 : Option Addr) (l2 c2 : Nat) (z2 : List Int) (w : World) (h1 : Sl w a1 l1 c1 z1) (h2 : Sl w a2 l2 c2 z2) (hB : B ≤ w.heap.size)
    (hlt : ∀ b off, a2 = some ⟨b, off, none⟩ → 0 < l2 → b < B) (hr : l2 ≤ 140737488000000) (p s : Nat) (p1 : p ≤ l1) (p2 : p ≤ l2) (s1 : s ≤ l1 - p) (s2 : s ≤ l2 - p)
    (hc : Calls Try.prog 16 #[.slice a1 l1 c1, .slice a2 l2 c2] w fun e w' => e = .returned (.int .i64 (p : Int)) ∧ ∃ n, w' = w.drewN n)
    (he : ∀ A1 A2 W, Sl W A1 (l1 - p) (c1 - p) (z1.drop p) → Sl W A2 (l2 - p) (c2 - p) (z2.drop p) → Calls Try.prog 17 #[.slice A1 (l1 - p) (c1 - p), .slice A2 (l2 - p) (c2 - p)] W fun e w' => e = .returned (.int .i64 (s : Int)) ∧ ∃ n, w' = W.drewN n)
    (hp : 0 < p) (hm : ¬ 0 < l2 - s - p) (hs : 0 < s) :
    Calls Try.prog 10 #[.slice a1 l1 c1, .slice a2 l2 c2] w (OwnRet B (mkW l1 z2 p s).length (bv (mkW l1 z2 p s)) w) := by
  have H1 := Lib.hid h1
  have H2 := Lib.hid h2
  have HLT := Lib.hid hlt
  have b1 : l1 ≤ 140737488355328 := h1.hbig
  have g1 := h1.hcap
  have g2 := h2.hcap
  have g3 := h1.hreach
  have g4 := h2.hreach
  have HC := Lib.hid hc
  have HD1 := Lib.hid (h1.drop p p1)
  have HD2 := Lib.hid (h2.drop p p2)
  have HE := Lib.hid he
  have hz2 := h2.hlen
  have HM2 : Hid (mkW l1 z2 p s = nb l1 ++ nb l2 ++ (if 0 < p then 1 :: nb 0 ++ nb p else []) ++ (if 0 < l2 - s - p then 2 :: nb ((l2 - s - p : Nat) : Int) ++ (z2.drop p).take (l2 - s - p) else []) ++ (if 0 < s then 1 :: nb ((l1 : Int) - (s : Int)) ++ nb s else [])) := Lib.hid (by unfold mkW; rw [hz2])
  obtain ⟨i0, hi, hz0, hz1, hz2⟩ := info_parts info5
  clear h1 h2 hlt hc he
  go_enter Try.func10, Try.ntmps10
  go_wp2_with fail
  refine HC.out.mono ?_
  rintro e w' ⟨rfl, n, rfl⟩
  have HS1 := Lib.hid (HD1.out.drawn n); have HS2 := Lib.hid (HD2.out.drawn n); have HB0 := Lib.hid (below_drewN (Below.refl B w) n); have hB0 : B ≤ (w.drewN n).heap.size := hB
  clear HC
  generalize w.drewN n = W1 at HS1 HS2 HB0 hB0 ⊢
  go_wp2_with fail
  go_quiet ((go_at_call 17; exact quiet_left (HE.out _ _ _ (by first | exact HS1.out.drawn _ | (refine Sl.drawn ?_ _; have h := HS1.out; rw [if_neg (by omega)] at h; exact h)) (by first | exact HS2.out.drawn _ | (refine Sl.drawn ?_ _; have h := HS2.out; rw [if_neg (by omega)] at h; exact h)))))
  go_wp2_with fail
  refine (number_any B _ 0 [] (l1 : Int) _ (by exact hB0) (World.ownsRow_nil _ B 5 1) (by omega) (by omega) (by omega)).mono ?_
  rintro e w1 ⟨v1, rfl, ho1, hn1, hb1⟩
  have HO1 := Lib.hid ho1; have HB1 := Lib.hid ((below_drewN HB0.out _).trans hb1)
  clear ho1 hn1 hb1
  go_wp2_with fail
  refine (number_any B v1 _ _ (l2 : Int) _ (by have := HB1.out.size; omega) HO1.out (by omega) (by omega) (by omega)).mono ?_
  rintro e w2 ⟨v2, rfl, ho, hn, hb⟩
  have HO2 := Lib.hid ho; have HN2 := Lib.hid hn; have HB2 := Lib.hid (HB1.out.trans hb)
  clear ho hn hb HO1 HB1
  go_wp2_with fail
  refine (copied_any B v2 _ _ 0 (p : Int) _ (by have := HB2.out.size; omega) HO2.out (by omega) (by omega) (by omega) (by omega) (by omega)).mono ?_
  rintro e w3 ⟨v3, rfl, ho, hn, hb⟩
  have HO3 := Lib.hid ho; have HN3 := Lib.hid hn; have HB3 := Lib.hid (HB2.out.trans hb)
  clear ho hn hb HO2 HB2
  go_wp2_with fail
  refine (copied_any B v3 _ _ ((l1 : Int) - (s : Int)) (s : Int) _ (by have := HB3.out.size; omega) HO3.out (by omega) (by omega) (by omega) (by omega) (by omega)).mono ?_
  rintro e w4 ⟨v4, rfl, ho, hn, hb⟩
  have HO4 := Lib.hid ho; have HN4 := Lib.hid hn; have HB4 := Lib.hid (HB3.out.trans hb)
  clear ho hn hb HO3 HB3
  go_wp2
  go_ret
  refine ⟨v4, rfl, ?_, HN4.out, HB4.out⟩
  exact own_conv HO4.out (by rw [HM2.out, if_pos hp, if_neg hm, if_pos hs]; simp [bv, nb])

set_option maxHeartbeats 1000000 in
theorem mk_4 (B : Nat) (a1 : Option Addr) (l1 c1 : Nat) (z1 : List Int) (a2 : Option Addr) (l2 c2 : Nat) (z2 : List Int) (w : World) (h1 : Sl w a1 l1 c1 z1) (h2 : Sl w a2 l2 c2 z2) (hB : B ≤ w.heap.size)
    (hlt : ∀ b off, a2 = some ⟨b, off, none⟩ → 0 < l2 → b < B) (hr : l2 ≤ 140737488000000) (p s : Nat) (p1 : p ≤ l1) (p2 : p ≤ l2) (s1 : s ≤ l1 - p) (s2 : s ≤ l2 - p)
    (hc : Calls Try.prog 16 #[.slice a1 l1 c1, .slice a2 l2 c2] w fun e w' => e = .returned (.int .i64 (p : Int)) ∧ ∃ n, w' = w.drewN n)
    (he : ∀ A1 A2 W, Sl W A1 (l1 - p) (c1 - p) (z1.drop p) → Sl W A2 (l2 - p) (c2 - p) (z2.drop p) → Calls Try.prog 17 #[.slice A1 (l1 - p) (c1 - p), .slice A2 (l2 - p) (c2 - p)] W fun e w' => e = .returned (.int .i64 (s : Int)) ∧ ∃ n, w' = W.drewN n)
    (hp : 0 < p) (hm : ¬ 0 < l2 - s - p) (hs : ¬ 0 < s) :
    Calls Try.prog 10 #[.slice a1 l1 c1, .slice a2 l2 c2] w (OwnRet B (mkW l1 z2 p s).length (bv (mkW l1 z2 p s)) w) := by
  obtain rfl : s = 0 := by omega
  simp only [Nat.sub_zero] at hm
  have H1 := Lib.hid h1
  have H2 := Lib.hid h2
  have HLT := Lib.hid hlt
  have b1 : l1 ≤ 140737488355328 := h1.hbig
  have g1 := h1.hcap
  have g2 := h2.hcap
  have g3 := h1.hreach
  have g4 := h2.hreach
  have HC := Lib.hid hc
  have HD1 := Lib.hid (h1.drop p p1)
  have HD2 := Lib.hid (h2.drop p p2)
  have HE := Lib.hid he
  have hz2 := h2.hlen
  have HM2 : Hid (mkW l1 z2 p 0 = nb l1 ++ nb l2 ++ (if 0 < p then 1 :: nb 0 ++ nb p else []) ++ (if 0 < l2 - p then 2 :: nb ((l2 - p : Nat) : Int) ++ (z2.drop p).take (l2 - p) else []) ++ (if 0 < 0 then 1 :: nb ((l1 : Int) - ((0 : Nat) : Int)) ++ nb ((0 : Nat) : Int) else [])) := Lib.hid (by unfold mkW; rw [hz2]; rfl)
  obtain ⟨i0, hi, hz0, hz1, hz2⟩ := info_parts info5
  clear h1 h2 hlt hc he
  go_enter Try.func10, Try.ntmps10
  go_wp2_with fail
  refine HC.out.mono ?_
  rintro e w' ⟨rfl, n, rfl⟩
  have HS1 := Lib.hid (HD1.out.drawn n); have HS2 := Lib.hid (HD2.out.drawn n); have HB0 := Lib.hid (below_drewN (Below.refl B w) n); have hB0 : B ≤ (w.drewN n).heap.size := hB
  clear HC
  generalize w.drewN n = W1 at HS1 HS2 HB0 hB0 ⊢
  go_wp2_with fail
  go_quiet ((go_at_call 17; exact quiet_left (HE.out _ _ _ (by first | exact HS1.out.drawn _ | (refine Sl.drawn ?_ _; have h := HS1.out; rw [if_neg (by omega)] at h; exact h)) (by first | exact HS2.out.drawn _ | (refine Sl.drawn ?_ _; have h := HS2.out; rw [if_neg (by omega)] at h; exact h)))))
  go_wp2_with fail
  all_goals
    refine (number_any B _ 0 [] (l1 : Int) _ (by exact hB0) (World.ownsRow_nil _ B 5 1) (by omega) (by omega) (by omega)).mono ?_
    rintro e w1 ⟨v1, rfl, ho1, hn1, hb1⟩
    have HO1 := Lib.hid ho1; have HB1 := Lib.hid ((below_drewN HB0.out _).trans hb1)
    clear ho1 hn1 hb1
    go_wp2_with fail
    refine (number_any B v1 _ _ (l2 : Int) _ (by have := HB1.out.size; omega) HO1.out (by omega) (by omega) (by omega)).mono ?_
    rintro e w2 ⟨v2, rfl, ho, hn, hb⟩
    have HO2 := Lib.hid ho; have HN2 := Lib.hid hn; have HB2 := Lib.hid (HB1.out.trans hb)
    clear ho hn hb HO1 HB1
    go_wp2_with fail
    refine (copied_any B v2 _ _ 0 (p : Int) _ (by have := HB2.out.size; omega) HO2.out (by omega) (by omega) (by omega) (by omega) (by omega)).mono ?_
    rintro e w3 ⟨v3, rfl, ho, hn, hb⟩
    have HO3 := Lib.hid ho; have HN3 := Lib.hid hn; have HB3 := Lib.hid (HB2.out.trans hb)
    clear ho hn hb HO2 HB2
    go_wp2
    go_ret
    refine ⟨v3, rfl, ?_, HN3.out, HB3.out⟩
    exact own_conv HO3.out (by rw [HM2.out, if_pos hp, if_neg hm, if_neg (Nat.lt_irrefl 0)]; simp [bv, nb])

set_option maxHeartbeats 1000000 in
theorem mk_5 (B : Nat) (a1 : Option Addr) (l1 c1 : Nat) (z1 : List Int) (a2 : Option Addr) (l2 c2 : Nat) (z2 : List Int) (w : World) (h1 : Sl w a1 l1 c1 z1) (h2 : Sl w a2 l2 c2 z2) (hB : B ≤ w.heap.size)
    (hlt : ∀ b off, a2 = some ⟨b, off, none⟩ → 0 < l2 → b < B) (hr : l2 ≤ 140737488000000) (p s : Nat) (p1 : p ≤ l1) (p2 : p ≤ l2) (s1 : s ≤ l1 - p) (s2 : s ≤ l2 - p)
    (hc : Calls Try.prog 16 #[.slice a1 l1 c1, .slice a2 l2 c2] w fun e w' => e = .returned (.int .i64 (p : Int)) ∧ ∃ n, w' = w.drewN n)
    (he : ∀ A1 A2 W, Sl W A1 (l1 - p) (c1 - p) (z1.drop p) → Sl W A2 (l2 - p) (c2 - p) (z2.drop p) → Calls Try.prog 17 #[.slice A1 (l1 - p) (c1 - p), .slice A2 (l2 - p) (c2 - p)] W fun e w' => e = .returned (.int .i64 (s : Int)) ∧ ∃ n, w' = W.drewN n)
    (hp : ¬ 0 < p) (hm : 0 < l2 - s - p) (hs : 0 < s) :
    Calls Try.prog 10 #[.slice a1 l1 c1, .slice a2 l2 c2] w (OwnRet B (mkW l1 z2 p s).length (bv (mkW l1 z2 p s)) w) := by
  have H1 := Lib.hid h1
  have H2 := Lib.hid h2
  have HLT := Lib.hid hlt
  have b1 : l1 ≤ 140737488355328 := h1.hbig
  have g1 := h1.hcap
  have g2 := h2.hcap
  have g3 := h1.hreach
  have g4 := h2.hreach
  have HC := Lib.hid hc
  have HD1 := Lib.hid (h1.drop p p1)
  have HD2 := Lib.hid (h2.drop p p2)
  have HE := Lib.hid he
  have hz2 := h2.hlen
  have HM2 : Hid (mkW l1 z2 p s = nb l1 ++ nb l2 ++ (if 0 < p then 1 :: nb 0 ++ nb p else []) ++ (if 0 < l2 - s - p then 2 :: nb ((l2 - s - p : Nat) : Int) ++ (z2.drop p).take (l2 - s - p) else []) ++ (if 0 < s then 1 :: nb ((l1 : Int) - (s : Int)) ++ nb s else [])) := Lib.hid (by unfold mkW; rw [hz2])
  obtain ⟨i0, hi, hz0, hz1, hz2⟩ := info_parts info5
  clear h1 h2 hlt hc he
  go_enter Try.func10, Try.ntmps10
  go_wp2_with fail
  refine HC.out.mono ?_
  rintro e w' ⟨rfl, n, rfl⟩
  have HS1 := Lib.hid (HD1.out.drawn n); have HS2 := Lib.hid (HD2.out.drawn n); have HB0 := Lib.hid (below_drewN (Below.refl B w) n); have hB0 : B ≤ (w.drewN n).heap.size := hB
  clear HC
  generalize w.drewN n = W1 at HS1 HS2 HB0 hB0 ⊢
  go_wp2_with fail
  go_quiet ((go_at_call 17; exact quiet_left (HE.out _ _ _ (by first | exact HS1.out.drawn _ | (refine Sl.drawn ?_ _; have h := HS1.out; rw [if_neg (by omega)] at h; exact h)) (by first | exact HS2.out.drawn _ | (refine Sl.drawn ?_ _; have h := HS2.out; rw [if_neg (by omega)] at h; exact h)))))
  obtain ⟨x2, o2, rfl, -⟩ := H2.out.hcell p (by omega)
  have hcp : ¬ c2 = p := by omega
  go_wp2_with fail
  refine (number_any B _ 0 [] (l1 : Int) _ (by exact hB0) (World.ownsRow_nil _ B 5 1) (by omega) (by omega) (by omega)).mono ?_
  rintro e w1 ⟨v1, rfl, ho1, hn1, hb1⟩
  have HO1 := Lib.hid ho1; have HB1 := Lib.hid ((below_drewN HB0.out _).trans hb1)
  clear ho1 hn1 hb1
  go_wp2_with fail
  refine (number_any B v1 _ _ (l2 : Int) _ (by have := HB1.out.size; omega) HO1.out (by omega) (by omega) (by omega)).mono ?_
  rintro e w2 ⟨v2, rfl, ho, hn, hb⟩
  have HO2 := Lib.hid ho; have HN2 := Lib.hid hn; have HB2 := Lib.hid (HB1.out.trans hb)
  clear ho hn hb HO1 HB1
  go_wp2_with (at_builtin; refine wpList_append_own _ rfl _ _ 22 rfl B 5 i0 (.int .u8 0) 1 1 Try.underlying22 hi hz0 hz1 hz2 rfl (by decide) v2 _ _ rfl (HO2.out.alloc _) ⟨w2.heap.size, 0, none⟩ 1 1 (bv [2]) rfl rfl ?c1 (bv_one _) ?c3 ?c4 ?c5 ?_)
  case c1 => exact new_cells [2] w2 _
  case c3 => unfold maxLen; omega
  case c4 => omega
  case c5 => have := HB2.out.size; simp; omega
  intro v3 w3 ho hg hn
  have HO3 := Lib.hid ho; have HB3 := Lib.hid ((HB2.out.alloc (by have := HB2.out.size; omega) _).trans (below_grown (by have := HB2.out.size; simp; omega) (HO2.out.alloc _) hg))
  clear ho hg hn HO2 HB2
  go_wp2_with fail
  refine (number_any B v3 _ _ ((l2 - s - p : Nat) : Int) _ (by have := HB3.out.size; omega) HO3.out (by omega) (by omega) (by omega)).mono ?_
  rintro e w4 ⟨v4, rfl, ho, hn, hb⟩
  have HO4 := Lib.hid ho; have HN4 := Lib.hid hn; have HB4 := Lib.hid (HB3.out.trans hb)
  clear ho hn hb HO3 HB3
  have HNW : Hid (∀ j u, (bv ((z2.drop p).take (l2 - s - p)))[j]? = some u → w4.cell? (Addr.add ⟨x2, o2 + p, none⟩ j) = some u) := Lib.hid (mid_cells H2.out HLT.out HB4.out p s)
  go_wp2_with (at_builtin; refine wpList_append_own _ rfl _ _ 22 rfl B 5 i0 (.int .u8 0) 1 1 Try.underlying22 hi hz0 hz1 hz2 rfl (by decide) v4 _ _ rfl HO4.out ⟨x2, o2 + p, none⟩ (l2 - s - p) (c2 - p) (bv ((z2.drop p).take (l2 - s - p))) rfl ?c0 HNW.out (bv_one _) ?c3 ?c4 ?c5 ?_)
  case c0 => rw [bv, List.length_map, List.length_take, List.length_drop, H2.out.hlen]; omega
  case c3 => unfold maxLen; omega
  case c4 => omega
  case c5 => have := HB4.out.size; omega
  intro v5 w5 ho hg hn
  have HO5 := Lib.hid ho; have HN5 := Lib.hid (show v5 ≠ .slice none 0 0 from fun h => HN4.out (hn.1 h).1); have HB5 := Lib.hid (HB4.out.trans (below_grown (by have := HB4.out.size; omega) HO4.out hg))
  clear ho hg hn HO4 HB4
  go_wp2_with fail
  refine (copied_any B v5 _ _ ((l1 : Int) - (s : Int)) (s : Int) _ (by have := HB5.out.size; omega) HO5.out (by omega) (by omega) (by omega) (by omega) (by omega)).mono ?_
  rintro e w6 ⟨v6, rfl, ho, hn, hb⟩
  have HO6 := Lib.hid ho; have HN6 := Lib.hid hn; have HB6 := Lib.hid (HB5.out.trans hb)
  clear ho hn hb HO5 HB5
  go_wp2
  go_ret
  refine ⟨v6, rfl, ?_, HN6.out, HB6.out⟩
  exact own_conv HO6.out (by rw [HM2.out, if_neg hp, if_pos hm, if_pos hs]; simp [bv, nb])

set_option maxHeartbeats 1000000 in
theorem mk_6 (B : Nat) (a1 : Option Addr) (l1 c1 : Nat) (z1 : List Int) (a2 : Option Addr) (l2 c2 : Nat) (z2 : List Int) (w : World) (h1 : Sl w a1 l1 c1 z1) (h2 : Sl w a2 l2 c2 z2) (hB : B ≤ w.heap.size)
    (hlt : ∀ b off, a2 = some ⟨b, off, none⟩ → 0 < l2 → b < B) (hr : l2 ≤ 140737488000000) (p s : Nat) (p1 : p ≤ l1) (p2 : p ≤ l2) (s1 : s ≤ l1 - p) (s2 : s ≤ l2 - p)
    (hc : Calls Try.prog 16 #[.slice a1 l1 c1, .slice a2 l2 c2] w fun e w' => e = .returned (.int .i64 (p : Int)) ∧ ∃ n, w' = w.drewN n)
    (he : ∀ A1 A2 W, Sl W A1 (l1 - p) (c1 - p) (z1.drop p) → Sl W A2 (l2 - p) (c2 - p) (z2.drop p) → Calls Try.prog 17 #[.slice A1 (l1 - p) (c1 - p), .slice A2 (l2 - p) (c2 - p)] W fun e w' => e = .returned (.int .i64 (s : Int)) ∧ ∃ n, w' = W.drewN n)
    (hp : ¬ 0 < p) (hm : 0 < l2 - s - p) (hs : ¬ 0 < s) :
    Calls Try.prog 10 #[.slice a1 l1 c1, .slice a2 l2 c2] w (OwnRet B (mkW l1 z2 p s).length (bv (mkW l1 z2 p s)) w) := by
  obtain rfl : s = 0 := by omega
  simp only [Nat.sub_zero] at hm
  have H1 := Lib.hid h1
  have H2 := Lib.hid h2
  have HLT := Lib.hid hlt
  have b1 : l1 ≤ 140737488355328 := h1.hbig
  have g1 := h1.hcap
  have g2 := h2.hcap
  have g3 := h1.hreach
  have g4 := h2.hreach
  have HC := Lib.hid hc
  have HD1 := Lib.hid (h1.drop p p1)
  have HD2 := Lib.hid (h2.drop p p2)
  have HE := Lib.hid he
  have hz2 := h2.hlen
  have HM2 : Hid (mkW l1 z2 p 0 = nb l1 ++ nb l2 ++ (if 0 < p then 1 :: nb 0 ++ nb p else []) ++ (if 0 < l2 - p then 2 :: nb ((l2 - p : Nat) : Int) ++ (z2.drop p).take (l2 - p) else []) ++ (if 0 < 0 then 1 :: nb ((l1 : Int) - ((0 : Nat) : Int)) ++ nb ((0 : Nat) : Int) else [])) := Lib.hid (by unfold mkW; rw [hz2]; rfl)
  obtain ⟨i0, hi, hz0, hz1, hz2⟩ := info_parts info5
  clear h1 h2 hlt hc he
  go_enter Try.func10, Try.ntmps10
  go_wp2_with fail
  refine HC.out.mono ?_
  rintro e w' ⟨rfl, n, rfl⟩
  have HS1 := Lib.hid (HD1.out.drawn n); have HS2 := Lib.hid (HD2.out.drawn n); have HB0 := Lib.hid (below_drewN (Below.refl B w) n); have hB0 : B ≤ (w.drewN n).heap.size := hB
  clear HC
  generalize w.drewN n = W1 at HS1 HS2 HB0 hB0 ⊢
  go_wp2_with fail
  go_quiet ((go_at_call 17; exact quiet_left (HE.out _ _ _ (by first | exact HS1.out.drawn _ | (refine Sl.drawn ?_ _; have h := HS1.out; rw [if_neg (by omega)] at h; exact h)) (by first | exact HS2.out.drawn _ | (refine Sl.drawn ?_ _; have h := HS2.out; rw [if_neg (by omega)] at h; exact h)))))
  obtain ⟨x2, o2, rfl, -⟩ := H2.out.hcell p (by omega)
  have hcp : ¬ c2 = p := by omega
  go_wp2_with fail
  all_goals
    refine (number_any B _ 0 [] (l1 : Int) _ (by exact hB0) (World.ownsRow_nil _ B 5 1) (by omega) (by omega) (by omega)).mono ?_
    rintro e w1 ⟨v1, rfl, ho1, hn1, hb1⟩
    have HO1 := Lib.hid ho1; have HB1 := Lib.hid ((below_drewN HB0.out _).trans hb1)
    clear ho1 hn1 hb1
    go_wp2_with fail
    refine (number_any B v1 _ _ (l2 : Int) _ (by have := HB1.out.size; omega) HO1.out (by omega) (by omega) (by omega)).mono ?_
    rintro e w2 ⟨v2, rfl, ho, hn, hb⟩
    have HO2 := Lib.hid ho; have HN2 := Lib.hid hn; have HB2 := Lib.hid (HB1.out.trans hb)
    clear ho hn hb HO1 HB1
    go_wp2_with (at_builtin; refine wpList_append_own _ rfl _ _ 22 rfl B 5 i0 (.int .u8 0) 1 1 Try.underlying22 hi hz0 hz1 hz2 rfl (by decide) v2 _ _ rfl (HO2.out.alloc _) ⟨w2.heap.size, 0, none⟩ 1 1 (bv [2]) rfl rfl ?c1 (bv_one _) ?c3 ?c4 ?c5 ?_)
    case c1 => exact new_cells [2] w2 _
    case c3 => unfold maxLen; omega
    case c4 => omega
    case c5 => have := HB2.out.size; simp; omega
    intro v3 w3 ho hg hn
    have HO3 := Lib.hid ho; have HB3 := Lib.hid ((HB2.out.alloc (by have := HB2.out.size; omega) _).trans (below_grown (by have := HB2.out.size; simp; omega) (HO2.out.alloc _) hg))
    clear ho hg hn HO2 HB2
    go_wp2_with fail
    refine (number_any B v3 _ _ ((l2 - p : Nat) : Int) _ (by have := HB3.out.size; omega) HO3.out (by omega) (by omega) (by omega)).mono ?_
    rintro e w4 ⟨v4, rfl, ho, hn, hb⟩
    have HO4 := Lib.hid ho; have HN4 := Lib.hid hn; have HB4 := Lib.hid (HB3.out.trans hb)
    clear ho hn hb HO3 HB3
    have HNW : Hid (∀ j u, (bv ((z2.drop p).take (l2 - p)))[j]? = some u → w4.cell? (Addr.add ⟨x2, o2 + p, none⟩ j) = some u) := Lib.hid (mid_cells H2.out HLT.out HB4.out p 0)
    go_wp2_with (at_builtin; refine wpList_append_own _ rfl _ _ 22 rfl B 5 i0 (.int .u8 0) 1 1 Try.underlying22 hi hz0 hz1 hz2 rfl (by decide) v4 _ _ rfl HO4.out ⟨x2, o2 + p, none⟩ (l2 - p) (c2 - p) (bv ((z2.drop p).take (l2 - p))) rfl ?c0 HNW.out (bv_one _) ?c3 ?c4 ?c5 ?_)
    case c0 => rw [bv, List.length_map, List.length_take, List.length_drop, H2.out.hlen]; omega
    case c3 => unfold maxLen; omega
    case c4 => omega
    case c5 => have := HB4.out.size; omega
    intro v5 w5 ho hg hn
    have HO5 := Lib.hid ho; have HN5 := Lib.hid (show v5 ≠ .slice none 0 0 from fun h => HN4.out (hn.1 h).1); have HB5 := Lib.hid (HB4.out.trans (below_grown (by have := HB4.out.size; omega) HO4.out hg))
    clear ho hg hn HO4 HB4
    go_wp2
    go_ret
    refine ⟨v5, rfl, ?_, HN5.out, HB5.out⟩
    exact own_conv HO5.out (by rw [HM2.out, if_neg hp, if_pos hm, if_neg (Nat.lt_irrefl 0)]; simp [bv, nb])

set_option maxHeartbeats 1000000 in
theorem mk_7 (B : Nat) (a1 : Option Addr) (l1 c1 : Nat) (z1 : List Int) (a2 : Option Addr) (l2 c2 : Nat) (z2 : List Int) (w : World) (h1 : Sl w a1 l1 c1 z1) (h2 : Sl w a2 l2 c2 z2) (hB : B ≤ w.heap.size)
    (hlt : ∀ b off, a2 = some ⟨b, off, none⟩ → 0 < l2 → b < B) (hr : l2 ≤ 140737488000000) (p s : Nat) (p1 : p ≤ l1) (p2 : p ≤ l2) (s1 : s ≤ l1 - p) (s2 : s ≤ l2 - p)
    (hc : Calls Try.prog 16 #[.slice a1 l1 c1, .slice a2 l2 c2] w fun e w' => e = .returned (.int .i64 (p : Int)) ∧ ∃ n, w' = w.drewN n)
    (he : ∀ A1 A2 W, Sl W A1 (l1 - p) (c1 - p) (z1.drop p) → Sl W A2 (l2 - p) (c2 - p) (z2.drop p) → Calls Try.prog 17 #[.slice A1 (l1 - p) (c1 - p), .slice A2 (l2 - p) (c2 - p)] W fun e w' => e = .returned (.int .i64 (s : Int)) ∧ ∃ n, w' = W.drewN n)
    (hp : ¬ 0 < p) (hm : ¬ 0 < l2 - s - p) (hs : 0 < s) :
    Calls Try.prog 10 #[.slice a1 l1 c1, .slice a2 l2 c2] w (OwnRet B (mkW l1 z2 p s).length (bv (mkW l1 z2 p s)) w) := by
  have H1 := Lib.hid h1
  have H2 := Lib.hid h2
  have HLT := Lib.hid hlt
  have b1 : l1 ≤ 140737488355328 := h1.hbig
  have g1 := h1.hcap
  have g2 := h2.hcap
  have g3 := h1.hreach
  have g4 := h2.hreach
  have HC := Lib.hid hc
  have HD1 := Lib.hid (h1.drop p p1)
  have HD2 := Lib.hid (h2.drop p p2)
  have HE := Lib.hid he
  have hz2 := h2.hlen
  have HM2 : Hid (mkW l1 z2 p s = nb l1 ++ nb l2 ++ (if 0 < p then 1 :: nb 0 ++ nb p else []) ++ (if 0 < l2 - s - p then 2 :: nb ((l2 - s - p : Nat) : Int) ++ (z2.drop p).take (l2 - s - p) else []) ++ (if 0 < s then 1 :: nb ((l1 : Int) - (s : Int)) ++ nb s else [])) := Lib.hid (by unfold mkW; rw [hz2])
  obtain ⟨i0, hi, hz0, hz1, hz2⟩ := info_parts info5
  clear h1 h2 hlt hc he
  go_enter Try.func10, Try.ntmps10
  go_wp2_with fail
  refine HC.out.mono ?_
  rintro e w' ⟨rfl, n, rfl⟩
  have HS1 := Lib.hid (HD1.out.drawn n); have HS2 := Lib.hid (HD2.out.drawn n); have HB0 := Lib.hid (below_drewN (Below.refl B w) n); have hB0 : B ≤ (w.drewN n).heap.size := hB
  clear HC
  generalize w.drewN n = W1 at HS1 HS2 HB0 hB0 ⊢
  go_wp2_with fail
  go_quiet ((go_at_call 17; exact quiet_left (HE.out _ _ _ (by first | exact HS1.out.drawn _ | (refine Sl.drawn ?_ _; have h := HS1.out; rw [if_neg (by omega)] at h; exact h)) (by first | exact HS2.out.drawn _ | (refine Sl.drawn ?_ _; have h := HS2.out; rw [if_neg (by omega)] at h; exact h)))))
  go_wp2_with fail
  refine (number_any B _ 0 [] (l1 : Int) _ (by exact hB0) (World.ownsRow_nil _ B 5 1) (by omega) (by omega) (by omega)).mono ?_
  rintro e w1 ⟨v1, rfl, ho1, hn1, hb1⟩
  have HO1 := Lib.hid ho1; have HB1 := Lib.hid ((below_drewN HB0.out _).trans hb1)
  clear ho1 hn1 hb1
  go_wp2_with fail
  refine (number_any B v1 _ _ (l2 : Int) _ (by have := HB1.out.size; omega) HO1.out (by omega) (by omega) (by omega)).mono ?_
  rintro e w2 ⟨v2, rfl, ho, hn, hb⟩
  have HO2 := Lib.hid ho; have HN2 := Lib.hid hn; have HB2 := Lib.hid (HB1.out.trans hb)
  clear ho hn hb HO1 HB1
  go_wp2_with fail
  refine (copied_any B v2 _ _ ((l1 : Int) - (s : Int)) (s : Int) _ (by have := HB2.out.size; omega) HO2.out (by omega) (by omega) (by omega) (by omega) (by omega)).mono ?_
  rintro e w3 ⟨v3, rfl, ho, hn, hb⟩
  have HO3 := Lib.hid ho; have HN3 := Lib.hid hn; have HB3 := Lib.hid (HB2.out.trans hb)
  clear ho hn hb HO2 HB2
  go_wp2
  go_ret
  refine ⟨v3, rfl, ?_, HN3.out, HB3.out⟩
  exact own_conv HO3.out (by rw [HM2.out, if_neg hp, if_neg hm, if_pos hs]; simp [bv, nb])

set_option maxHeartbeats 1000000 in
theorem mk_8 (B : Nat) (a1 : Option Addr) (l1 c1 : Nat) (z1 : List Int) (a2 : Option Addr) (l2 c2 : Nat) (z2 : List Int) (w : World) (h1 : Sl w a1 l1 c1 z1) (h2 : Sl w a2 l2 c2 z2) (hB : B ≤ w.heap.size)
    (hlt : ∀ b off, a2 = some ⟨b, off, none⟩ → 0 < l2 → b < B) (hr : l2 ≤ 140737488000000) (p s : Nat) (p1 : p ≤ l1) (p2 : p ≤ l2) (s1 : s ≤ l1 - p) (s2 : s ≤ l2 - p)
    (hc : Calls Try.prog 16 #[.slice a1 l1 c1, .slice a2 l2 c2] w fun e w' => e = .returned (.int .i64 (p : Int)) ∧ ∃ n, w' = w.drewN n)
    (he : ∀ A1 A2 W, Sl W A1 (l1 - p) (c1 - p) (z1.drop p) → Sl W A2 (l2 - p) (c2 - p) (z2.drop p) → Calls Try.prog 17 #[.slice A1 (l1 - p) (c1 - p), .slice A2 (l2 - p) (c2 - p)] W fun e w' => e = .returned (.int .i64 (s : Int)) ∧ ∃ n, w' = W.drewN n)
    (hp : ¬ 0 < p) (hm : ¬ 0 < l2 - s - p) (hs : ¬ 0 < s) :
    Calls Try.prog 10 #[.slice a1 l1 c1, .slice a2 l2 c2] w (OwnRet B (mkW l1 z2 p s).length (bv (mkW l1 z2 p s)) w) := by
  obtain rfl : s = 0 := by omega
  simp only [Nat.sub_zero] at hm
  have H1 := Lib.hid h1
  have H2 := Lib.hid h2
  have HLT := Lib.hid hlt
  have b1 : l1 ≤ 140737488355328 := h1.hbig
  have g1 := h1.hcap
  have g2 := h2.hcap
  have g3 := h1.hreach
  have g4 := h2.hreach
  have HC := Lib.hid hc
  have HD1 := Lib.hid (h1.drop p p1)
  have HD2 := Lib.hid (h2.drop p p2)
  have HE := Lib.hid he
  have hz2 := h2.hlen
  have HM2 : Hid (mkW l1 z2 p 0 = nb l1 ++ nb l2 ++ (if 0 < p then 1 :: nb 0 ++ nb p else []) ++ (if 0 < l2 - p then 2 :: nb ((l2 - p : Nat) : Int) ++ (z2.drop p).take (l2 - p) else []) ++ (if 0 < 0 then 1 :: nb ((l1 : Int) - ((0 : Nat) : Int)) ++ nb ((0 : Nat) : Int) else [])) := Lib.hid (by unfold mkW; rw [hz2]; rfl)
  obtain ⟨i0, hi, hz0, hz1, hz2⟩ := info_parts info5
  clear h1 h2 hlt hc he
  go_enter Try.func10, Try.ntmps10
  go_wp2_with fail
  refine HC.out.mono ?_
  rintro e w' ⟨rfl, n, rfl⟩
  have HS1 := Lib.hid (HD1.out.drawn n); have HS2 := Lib.hid (HD2.out.drawn n); have HB0 := Lib.hid (below_drewN (Below.refl B w) n); have hB0 : B ≤ (w.drewN n).heap.size := hB
  clear HC
  generalize w.drewN n = W1 at HS1 HS2 HB0 hB0 ⊢
  go_wp2_with fail
  go_quiet ((go_at_call 17; exact quiet_left (HE.out _ _ _ (by first | exact HS1.out.drawn _ | (refine Sl.drawn ?_ _; have h := HS1.out; rw [if_neg (by omega)] at h; exact h)) (by first | exact HS2.out.drawn _ | (refine Sl.drawn ?_ _; have h := HS2.out; rw [if_neg (by omega)] at h; exact h)))))
  go_wp2_with fail
  all_goals
    refine (number_any B _ 0 [] (l1 : Int) _ (by exact hB0) (World.ownsRow_nil _ B 5 1) (by omega) (by omega) (by omega)).mono ?_
    rintro e w1 ⟨v1, rfl, ho1, hn1, hb1⟩
    have HO1 := Lib.hid ho1; have HB1 := Lib.hid ((below_drewN HB0.out _).trans hb1)
    clear ho1 hn1 hb1
    go_wp2_with fail
    refine (number_any B v1 _ _ (l2 : Int) _ (by have := HB1.out.size; omega) HO1.out (by omega) (by omega) (by omega)).mono ?_
    rintro e w2 ⟨v2, rfl, ho, hn, hb⟩
    have HO2 := Lib.hid ho; have HN2 := Lib.hid hn; have HB2 := Lib.hid (HB1.out.trans hb)
    clear ho hn hb HO1 HB1
    go_wp2
    go_ret
    refine ⟨v2, rfl, ?_, HN2.out, HB2.out⟩
    exact own_conv HO2.out (by rw [HM2.out, if_neg hp, if_neg hm, if_neg (Nat.lt_irrefl 0)]; simp [bv, nb])

theorem make_any (B : Nat) (a1 : Option Addr) (l1 c1 : Nat) (z1 : List Int) (a2 : Option Addr) (l2 c2 : Nat) (z2 : List Int) (w : World) (h1 : Sl w a1 l1 c1 z1) (h2 : Sl w a2 l2 c2 z2) (hB : B ≤ w.heap.size)
    (hlt : ∀ b off, a2 = some ⟨b, off, none⟩ → 0 < l2 → b < B) (hr : l2 ≤ 140737488000000) :
    Calls Try.prog 10 #[.slice a1 l1 c1, .slice a2 l2 c2] w (OwnRet B (mk z1 z2).length (bv (mk z1 z2)) w) := by
  have p1 := cp_le_left z1 z2
  have p2 := cp_le_right z1 z2
  have e : mk z1 z2 = mkW l1 z2 (cp z1 z2) (cp (z1.drop (cp z1 z2)).reverse (z2.drop (cp z1 z2)).reverse) := by unfold mk; rw [h1.hlen]
  rw [h1.hlen] at p1
  rw [h2.hlen] at p2
  have hc := common_any a1 l1 c1 z1 a2 l2 c2 z2 w h1 h2
  rw [e]
  clear e
  generalize cp z1 z2 = p at p1 p2 hc ⊢
  have s1 := cp_le_left (z1.drop p).reverse (z2.drop p).reverse
  have s2 := cp_le_right (z1.drop p).reverse (z2.drop p).reverse
  rw [List.length_reverse, List.length_drop, h1.hlen] at s1
  rw [List.length_reverse, List.length_drop, h2.hlen] at s2
  have he := fun A1 A2 W (g1 : Sl W A1 (l1 - p) (c1 - p) (z1.drop p)) (g2 : Sl W A2 (l2 - p) (c2 - p) (z2.drop p)) => commonEnd_any A1 (l1 - p) (c1 - p) (z1.drop p) A2 (l2 - p) (c2 - p) (z2.drop p) W g1 g2
  generalize cp (z1.drop p).reverse (z2.drop p).reverse = s at s1 s2 he ⊢
  by_cases hp : 0 < p
  · by_cases hm : 0 < l2 - s - p
    · by_cases hs : 0 < s
      · exact mk_1 B a1 l1 c1 z1 a2 l2 c2 z2 w h1 h2 hB hlt hr p s p1 p2 s1 s2 hc he hp hm hs
      · exact mk_2 B a1 l1 c1 z1 a2 l2 c2 z2 w h1 h2 hB hlt hr p s p1 p2 s1 s2 hc he hp hm hs
    · by_cases hs : 0 < s
      · exact mk_3 B a1 l1 c1 z1 a2 l2 c2 z2 w h1 h2 hB hlt hr p s p1 p2 s1 s2 hc he hp hm hs
      · exact mk_4 B a1 l1 c1 z1 a2 l2 c2 z2 w h1 h2 hB hlt hr p s p1 p2 s1 s2 hc he hp hm hs
  · by_cases hm : 0 < l2 - s - p
    · by_cases hs : 0 < s
      · exact mk_5 B a1 l1 c1 z1 a2 l2 c2 z2 w h1 h2 hB hlt hr p s p1 p2 s1 s2 hc he hp hm hs
      · exact mk_6 B a1 l1 c1 z1 a2 l2 c2 z2 w h1 h2 hB hlt hr p s p1 p2 s1 s2 hc he hp hm hs
    · by_cases hs : 0 < s
      · exact mk_7 B a1 l1 c1 z1 a2 l2 c2 z2 w h1 h2 hB hlt hr p s p1 p2 s1 s2 hc he hp hm hs
      · exact mk_8 B a1 l1 c1 z1 a2 l2 c2 z2 w h1 h2 hB hlt hr p s p1 p2 s1 s2 hc he hp hm hs
end Go.Proofs.Ytkelgaanehihbaa.Dt
