/- merge3.kept: of each line of a row its partner. -/
import Derived.Test.YtlaneilmffdahaaMgKit
import Derived.Test.YtlaneilmffdahaaMgMath
import Derived.Test.YtlaneilmffdahaaLnAdded
import Derived.Deep.LoopGhost
namespace Go.Proofs.Ytlaneilmffdahaa.Mg
open Go.RowKit Go.Proofs.Ytlaneilmffdahaa.Ln
set_option linter.unusedVariables false

def KeptRet (p : List Int) (w : World) (e : Ending) (w' : World) : Prop :=
  ∃ A C, e = .returned (.tuple #[.slice A p.length C, .int .i64 0]) ∧ w'.ownsRow w.heap.size 3 1 (.slice A p.length C) p.length (iv p) ∧ Below w.heap.size w w'
theorem two_cells {w : World} {X : Nat} {x y : Value} {t : TypeId} (h : w.heap[X]? = some (.cells #[x, y] t (0, 0))) : w.cell? ⟨X, 0, none⟩ = some x ∧ w.cell? ⟨X, 1, none⟩ = some y := by
  constructor <;> simp [World.cell?, h]
theorem flat_len (l : List (Nat × Nat)) : (flat l).length = tot l := by
  induction l with
  | nil => rfl
  | cons x l ih =>
    simp only [flat, tot, List.flatMap_cons, List.length_append, List.map_cons, List.sum_cons, List.length_replicate] at ih ⊢
    rw [ih]
theorem flat_take (l : List (Nat × Nat)) (k : Nat) (h : k < l.length) : flat (l.take (k + 1)) = flat (l.take k) ++ List.replicate l[k].2 l[k].1 := by
  rw [List.take_succ_eq_append_getElem h, flat_append]
  simp [flat]
theorem tot_take (l : List (Nat × Nat)) (k : Nat) (h : k < l.length) : tot (l.take k) + l[k].2 ≤ tot l := by
  have e : tot l = tot (l.take (k + 1)) + tot (l.drop (k + 1)) := by conv => lhs; rw [← List.take_append_drop (k + 1) l, tot_append]
  rw [List.take_succ_eq_append_getElem h, tot_append] at e
  simp only [tot, List.map_cons, List.map_nil, List.sum_cons, List.sum_nil] at e ⊢
  omega
/-- the steps up to the m-th of a run -/
def upS (l : List (Nat × Nat)) (k op m : Nat) : List Nat := flat (l.take k) ++ List.replicate m op
theorem upS_succ (l : List (Nat × Nat)) (k op m : Nat) : upS l k op (m + 1) = upS l k op m ++ [op] := by unfold upS; rw [List.replicate_succ', List.append_assoc]
theorem upS_zero (l : List (Nat × Nat)) (k op : Nat) : upS l k op 0 = flat (l.take k) := by simp [upS]
theorem partS_le : ∀ (s : List Nat) (j : Nat), (partS s j).length ≤ s.length
  | [], _ => Nat.le_refl _
  | 0 :: s, j => by have := partS_le s (j + 1); simp only [partS, List.length_cons]; omega
  | 1 :: s, j => by have := partS_le s j; simp only [partS, List.length_cons]; omega
  | (_ + 2) :: s, j => by have := partS_le s (j + 1); simp only [partS, List.length_cons]; omega
theorem overS_le (s : List Nat) : overS s ≤ s.length := List.countP_le_length
theorem upS_len (l : List (Nat × Nat)) (k op m : Nat) : (upS l k op m).length = tot (l.take k) + m := by simp [upS, flat_len]
theorem iv_snoc (p : List Int) (x : Int) : iv (p ++ [x]) = iv p ++ [.int .i64 x] := by simp [iv]
theorem kept_keep (p : List Int) (w w' : World) {B n : Nat} {v : Value} (h : w.ownsRow B 3 1 v n (iv p)) (q : List Int) (hq : q = p) : w.ownsRow B 3 1 v n (iv q) := by rw [hq]; exact h

/-- Diff's answer, its slice laid open -/
def DfRet (l : List (Nat × Nat)) (w : World) (e : Ending) (w' : World) : Prop :=
  ∃ A C, e = .returned (.tuple #[.slice A l.length C, .int .i64 0]) ∧ Hid (w'.ownsRow w.heap.size 82 2 (.slice A l.length C) l.length (ed l)) ∧ l.length ≤ tot l ∧ l.length ≤ C ∧ C ≤ 9223372036854775807 ∧ Hid (Below w.heap.size w w')
theorem DfRet.of {l : List (Nat × Nat)} {w w' : World} {e : Ending} (h : DiffRet l w e w') : DfRet l w e w' := by
  obtain ⟨v, rfl, ho, hlt, hb⟩ := h
  obtain ⟨A, N, C, rfl⟩ := own_slice ho
  obtain ⟨rfl, q1, q2⟩ := own_edit_len ho
  exact ⟨A, C, rfl, Lib.hid ho, hlt, q1, by unfold maxLen at q2; omega, Lib.hid hb⟩

/-- the walk's state: partners so far, lines of the other side so far -/
structure Kw (B : Nat) (w1 : World) (s8 s9 : Value) (s : List Nat) (wr : World) : Prop where
  own : wr.ownsRow B 3 1 s8 (partS s 0).length (iv (partS s 0))
  at' : s9 = .int .i64 ((overS s : Nat) : Int)
  bel : Below B w1 wr
theorem Kw.mv {B : Nat} {w1 : World} {s8 s9 : Value} {s : List Nat} {wr : World} (h : Kw B w1 s8 s9 s wr) (o : Obj) (hB : B ≤ wr.heap.size) : Kw B w1 s8 s9 s (wr.alloc o) :=
  ⟨own_keep h.own ((Below.refl _ _).alloc (Nat.le_refl _) o), h.at', h.bel.alloc hB o⟩
/-- one partner more behind: x was laid in a new block first -/
theorem Kw.app {B : Nat} {w1 : World} {s8 s9 v' : Value} {s : List Nat} {wy w' : World} {o : Obj} {x : Int} {op d : Nat} (h : Kw B w1 s8 s9 s wy) (hB : B ≤ wy.heap.size) (hx : partS (s ++ [op]) 0 = partS s 0 ++ [x]) (hj : overS (s ++ [op]) = overS s + d)
    (ho : w'.ownsRow B 3 1 v' ((partS s 0).length + 1) (iv (partS s 0) ++ [.int .i64 x])) (hg : (wy.alloc o).grownBy w' s8.ownBlock) : Kw B w1 v' (.int .i64 (((overS s + d : Nat)) : Int)) (s ++ [op]) w' := by
  refine ⟨?_, by rw [hj], ?_⟩
  · rw [hx, iv_snoc, List.length_append]; exact ho
  · have ho1 := own_keep h.own ((Below.refl _ _).alloc (Nat.le_refl _) o)
    exact (h.bel.alloc hB o).trans (below_grown (by simp; omega) ho1 hg)
theorem Kw.blk {B : Nat} {w1 : World} {s8 s9 : Value} {s : List Nat} {wy w' : World} {o : Obj} (h : Kw B w1 s8 s9 s wy) (hg : (wy.alloc o).grownBy w' s8.ownBlock) {X : Nat} {cs : Array Value} (hX : wy.heap[X]? = some (.cells cs 82 (0, 0))) : w'.heap[X]? = some (.cells cs 82 (0, 0)) :=
  (((Kp.refl [3] wy).alloc o).grown (own_keep h.own ((Below.refl _ _).alloc (Nat.le_refl _) o)) hg (by simp)).block _ _ _ _ hX (by decide)
theorem Kw.over {B : Nat} {w1 : World} {s8 s9 : Value} {s : List Nat} {wy : World} {op : Nat} (h : Kw B w1 s8 s9 s wy) (h2 : 2 ≤ op) : Kw B w1 s8 (.int .i64 (((overS s + 1 : Nat)) : Int)) (s ++ [op]) wy := by
  have e : partS (s ++ [op]) 0 = partS s 0 := by rw [partS_snoc, if_neg (by omega), if_neg (by omega), List.append_nil]
  exact ⟨by rw [e]; exact h.own, by rw [overS_snoc, if_neg (by omega)], h.bel⟩

set_option maxRecDepth 100000 in
set_option maxHeartbeats 2000000 in
theorem kept_any (a : Option Addr) (la ca : Nat) (sa : List ByteArray) (b : Option Addr) (lb cb : Nat) (sb : List ByteArray) (w : World) (h1 : Rd w w.heap.size a la ca (sv sa)) (h2 : Rd w w.heap.size b lb cb (sv sb))
    (m1 : ∀ s ∈ sa, s.size ≤ maxLen) (m2 : ∀ s ∈ sb, s.size ≤ maxLen) (l1 : la ≤ 4000) (l2 : lb ≤ 4000) :
    Calls Try.prog 30 #[.slice a la ca, .slice b lb cb] w (KeptRet (partS (steps sa sb) 0) w) := by
  have HD := Lib.hid ((diff_any a la ca sa b lb cb sb w h1 h2 m1 m2 l1 l2).mono fun _ _ h => DfRet.of h)
  have hsl : tot (scr sa sb) ≤ 8000 := by
    have h := scr_len sa sb
    have e1 : sa.length = la := by have := h1.hlen; simpa [sv] using this
    have e2 : sb.length = lb := by have := h2.hlen; simpa [sv] using this
    omega
  have HF := Lib.hid (flat_scr sa sb)
  clear h1 h2 m1 m2
  generalize scr sa sb = l at *
  go_enter Try.func30, Try.ntmps30
  go_wp2_with (go_at_call 47; refine HD.out.mono ?_; rintro e w1 ⟨A, C, rfl, H, hlt, q1, q2, HB⟩)
  have hll : l.length ≤ 8000 := by omega
  go_wp2
  go_loopw [8, 9, 23] (fun s8 s9 s23 wr => ∃ k : Nat, k ≤ l.length ∧ s23 = .int .i64 k ∧ Hid (Kw w1.heap.size w1 s8 s9 (flat (l.take k)) wr)) (fun _ _ s23 _ => l.length - (intOf s23).toNat)
  case atStart => exact ⟨0, Nat.zero_le _, rfl, Lib.hid ⟨World.ownsRow_nil _ _ _ _, rfl, Below.refl _ _⟩⟩
  case round =>
    obtain ⟨k, hk, rfl, HK⟩ := hrel
    by_cases hlt : k < l.length
    · obtain ⟨g, rfl, a1, a2⟩ := own_edit (own_keep H.out HK.out.bel) k hlt
      have HT := Lib.hid (flat_take l k hlt)
      have hsum := tot_take l k hlt
      obtain ⟨op, n, hxe⟩ : ∃ op n, l[k] = (op, n) := ⟨_, _, rfl⟩
      rw [hxe] at a1 a2 hsum
      have HXE := Lib.hid hxe
      simp only at a1 a2 hsum
      clear hxe
      have hsz := HK.out.bel.size
      go_wp2
      obtain ⟨wo, rfl⟩ : ∃ wo : World, wo = wr := ⟨_, rfl⟩
      go_loopw [8, 9, 29] (fun s8 s9 s29 wy => ∃ m : Nat, m ≤ n ∧ s29 = .int .i64 m ∧ Hid (Kw w1.heap.size w1 s8 s9 (upS l k op m) wy) ∧ Hid (wy.heap[wo.heap.size]? = some (.cells #[.int .i64 op, .int .i64 n] 82 (0, 0)))) (fun _ _ s29 _ => n - (intOf s29).toNat)
      case atStart => exact ⟨0, Nat.zero_le _, rfl, Lib.hid (by rw [upS_zero]; exact HK.out.mv _ hsz), Lib.hid (heap_alloc_new _ _)⟩
      case round =>
        obtain ⟨m, hm, rfl, HW, HX⟩ := hrel
        obtain ⟨c1, c2⟩ := two_cells HX.out
        have hlen : (upS l k op m).length ≤ 8000 := by rw [upS_len]; omega
        have hpl := partS_le (upS l k op m) 0
        have hol := overS_le (upS l k op m)
        have hys := HW.out.bel.size
        have e9 := HW.out.at'
        by_cases hlt2 : m < n
        · have hsn := upS_succ l k op m
          generalize upS l k op m = s at *
          have HSN := Lib.hid hsn
          clear hsn a1 a2
          obtain ⟨j, hj⟩ : ∃ j, overS s = j := ⟨_, rfl⟩
          rw [hj] at e9 hol
          subst e9
          have HJ := Lib.hid hj
          clear hj
          by_cases h0 : op = 0
          · have hb0 : ((op : Int) == 0) = true := by simp; omega
            have hb1 : ((op : Int) == 1) = false := by simp; omega
            have ho1 := own_keep HW.out.own ((Below.refl wr.heap.size wr).alloc (Nat.le_refl _) (.cells #[.int .i64 (j : Int)] 3))
            have HO := Lib.hid ho1
            have H0 := Lib.hid h0
            clear ho1 h0
            go_wp2_with (at_builtin; refine wpList_append_rd elI _ rfl _ _ rfl w1.heap.size u8 (partS s 0).length (iv (partS s 0)) rfl HO.out _ (some ⟨wr.heap.size, 0, none⟩) 1 1 [.int .i64 (j : Int)] rfl (rd_new _ _ _) (iv_one [_]) ((partS s 0).length + 1) rfl (by omega) (by simp; omega) ?_)
            intro A' C' w' ho hg hs
            have HW2 := Lib.hid (HW.out.app (op := op) (d := 1) hys (by rw [partS_snoc, if_pos H0.out, HJ.out]) (by rw [overS_snoc, if_neg (by have := H0.out; omega)]) ho hg)
            have HX2 := Lib.hid (HW.out.blk hg HX.out)
            obtain ⟨d1, d2⟩ := two_cells HX2.out
            rw [HJ.out] at HW2
            clear ho hg hs HO HW HX c1 c2
            go_wp2
            go_roundw
            case rel => exact ⟨m + 1, by omega, by go_num, by rw [HSN.out]; exact HW2, HX2⟩
            case measure => simp [intOf]; omega
          · by_cases h1 : op = 1
            · have hb0 : ((op : Int) == 0) = false := by simp; omega
              have hb1 : ((op : Int) == 1) = true := by simp; omega
              have ho1 := own_keep HW.out.own ((Below.refl wr.heap.size wr).alloc (Nat.le_refl _) (.cells #[.int .i64 (-1)] 3))
              have HO := Lib.hid ho1
              have H1 := Lib.hid h1
              clear ho1 h0 h1
              go_wp2_with (at_builtin; refine wpList_append_rd elI _ rfl _ _ rfl w1.heap.size u8 (partS s 0).length (iv (partS s 0)) rfl HO.out _ (some ⟨wr.heap.size, 0, none⟩) 1 1 [.int .i64 (-1)] rfl (rd_new _ _ _) (iv_one [_]) ((partS s 0).length + 1) rfl (by omega) (by simp; omega) ?_)
              intro A' C' w' ho hg hs
              have HW2 := Lib.hid (HW.out.app (op := op) (d := 0) hys (by rw [partS_snoc, if_neg (by have := H1.out; omega), if_pos H1.out]) (by rw [overS_snoc, if_pos H1.out]) ho hg)
              have HX2 := Lib.hid (HW.out.blk hg HX.out)
              obtain ⟨d1, d2⟩ := two_cells HX2.out
              rw [HJ.out, Nat.add_zero] at HW2
              clear ho hg hs HO HW HX c1 c2
              go_wp2
              go_roundw
              case rel => exact ⟨m + 1, by omega, by go_num, by rw [HSN.out]; exact HW2, HX2⟩
              case measure => simp [intOf]; omega
            · have hb0 : ((op : Int) == 0) = false := by simp; omega
              have hb1 : ((op : Int) == 1) = false := by simp; omega
              have HW2 := Lib.hid (HW.out.over (op := op) (by omega))
              rw [HJ.out] at HW2
              clear h0 h1 HW
              go_wp2
              go_roundw
              case rel => exact ⟨m + 1, by omega, by go_num, by rw [HSN.out]; exact HW2, HX⟩
              case measure => simp [intOf]; omega
        · have e : m = n := by omega
          subst e
          have HN : Hid (Kw w1.heap.size w1 u8 u9 (flat (l.take (k + 1))) wr) := Lib.hid (by rw [HT.out, HXE.out]; exact HW.out)
          clear e9 HW HX c1 c2 a1 a2
          go_wp2
          go_roundw
          case rel => exact ⟨k + 1, by omega, by go_num, HN⟩
          case measure => simp [intOf]; omega
    · have e : k = l.length := by omega
      subst e
      have HK2 := HK.out
      rw [List.take_length, HF.out] at HK2
      have HO := Lib.hid HK2.own
      have hbl := HK2.bel
      obtain ⟨A8, N8, C8, rfl⟩ := own_slice HO.out
      obtain rfl := own_N HO.out
      have HBB := Lib.hid hbl
      clear HK2 hbl
      go_wp2
      go_ret2
      exact ⟨A8, C8, rfl, own_base HO.out HB.out.size, HB.out.trans (HBB.out.mono HB.out.size)⟩
end Go.Proofs.Ytlaneilmffdahaa.Mg
