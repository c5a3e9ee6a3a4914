/- Lines told by numbers: the map of the numbers, walked. -/
import Derived.Test.YtlaneilmffdahaaLnKit
import Derived.Deep.LoopGhost
import Derived.Maps.OwnOps
import Derived.Maps.OwnSet
import Derived.StringKeys
import Derived.IntWalk
namespace Go.Proofs.Ytlaneilmffdahaa.Ln
open Go.RowKit
set_option linter.unusedVariables false
theorem zeroI (w : World) : (zeroValue 3).run Try.prog w = .ok (.int .i64 0) w := by kernel_rfl
theorem lawS : Maps.Keyed Try.prog 9 := Maps.string_keyed Try.underlying9
/-- a line as a map's key -/
def key (s : ByteArray) : Lit := .string s.data.toList
theorem key_inj {s t : ByteArray} (h : key s = key t) : s = t := by
  unfold key at h
  injection h with h
  cases s with | mk a => cases t with | mk b =>
    congr
    exact Array.toList_inj.1 h
/-- the place of a line among others -/
def place (s : ByteArray) : List ByteArray → Nat
  | [] => 0
  | t :: l => if t = s then 0 else place s l + 1
theorem place_mem {s : ByteArray} : ∀ {d : List ByteArray} (e : List ByteArray), s ∈ d → place s (d ++ e) = place s d
  | [], e, h => by simp at h
  | t :: l, e, h => by
      by_cases q : t = s
      · simp [place, q]
      · have h' : s ∈ l := by
          rcases List.mem_cons.1 h with rfl | h
          · exact absurd rfl q
          · exact h
        simp [place, q, place_mem e h']
theorem place_new {s : ByteArray} : ∀ {d : List ByteArray}, s ∉ d → place s (d ++ [s]) = d.length
  | [], h => by simp [place]
  | t :: l, h => by
      have q : ¬ t = s := by rintro rfl; exact h List.mem_cons_self
      simp [place, q, place_new (fun g => h (List.mem_cons_of_mem _ g))]
theorem place_get {s : ByteArray} : ∀ {d : List ByteArray}, s ∈ d → d[place s d]? = some s
  | [], h => by simp at h
  | t :: l, h => by
      by_cases q : t = s
      · simp [place, q]
      · have h' : s ∈ l := by
          rcases List.mem_cons.1 h with rfl | h
          · exact absurd rfl q
          · exact h
        simp [place, q, place_get h']
theorem place_inj {d : List ByteArray} {s t : ByteArray} (hs : s ∈ d) (ht : t ∈ d) (h : place s d = place t d) : s = t := by
  have h1 := place_get hs
  rw [h, place_get ht] at h1
  injection h1 with h1
  exact h1.symm
/-- the map tells of each of the lines d, which are all unlike, its place -/
structure NumMap (D : DataW Unit) (d : List ByteArray) : Prop where
  tidy : Maps.Tidy D
  size : Maps.size D = d.length
  nodup : d.Nodup
  has : ∀ s, Maps.has D (key s) = true ↔ s ∈ d
  at_ : ∀ s ∈ d, ∀ z, D.atKey (key s) z = .lit (.int .i64 ((place s d : Nat) : Int))
theorem numMap_nil : NumMap (.map []) [] :=
  ⟨Maps.tidy_empty, rfl, List.nodup_nil, fun s => by simp [Maps.has_eq], fun s hs => by simp at hs⟩
theorem NumMap.put {D : DataW Unit} {d : List ByteArray} (h : NumMap D d) (s : ByteArray) (hs : s ∉ d) : NumMap (D.put (key s) (.lit (.int .i64 ((d.length : Nat) : Int)))) (d ++ [s]) := by
  have hk : WideAt.IsKeyLit (key s) := by unfold key; trivial
  have hh : Maps.has D (key s) = false := by
    cases e : Maps.has D (key s)
    · rfl
    · exact absurd ((h.has s).1 e) hs
  refine ⟨h.tidy.put hk _, ?_, ?_, ?_, ?_⟩
  · rw [Maps.size_put h.tidy, hh, h.size]; simp
  · rw [List.nodup_append]
    refine ⟨h.nodup, List.nodup_cons.2 ⟨by simp, List.nodup_nil⟩, ?_⟩
    intro a ha b hb
    simp at hb
    subst hb
    rintro rfl
    exact hs ha
  · intro t
    by_cases e : t = s
    · subst e
      rw [Maps.has_put_same h.tidy.isMap hk]; simp
    · rw [Maps.has_put_other (fun g => e (key_inj g)), h.has]
      simp [e]
  · intro t ht z
    by_cases e : t = s
    · subst e
      rw [Maps.atKey_put_same h.tidy.isMap hk]
      rw [place_new hs]
    · rw [Maps.atKey_put_other (fun g => e (key_inj g))]
      have ht' : t ∈ d := by simpa [e] using ht
      rw [h.at_ t ht', place_mem _ ht']
theorem rowIs_own {w : World} {B g t n : Nat} {f : Nat → Value} (h : w.rowIs g t n f) (hB : B ≤ g) (hn : n ≤ maxLen) : w.ownsRow B t 1 (.slice (some ⟨g, 0, none⟩) n n) n ((List.range n).map f) := by
  obtain ⟨c, hb, hc, hf⟩ := h
  refine ⟨by simp, .inr ⟨g, n, c, rfl, hB, hb, Nat.le_refl _, hn, by omega, ?_⟩⟩
  rw [Nat.mul_one, List.take_of_length_le (by simp; omega)]
  apply List.ext_getElem?
  intro i
  by_cases hi : i < n
  · have := hf i hi
    simp [hi, this]
  · rw [List.getElem?_eq_none (by simp; omega), List.getElem?_eq_none (by simp; omega)]
theorem only_setCell {a w : World} {g : Nat} (h : a.grownBy w (some g)) {p : Addr} (hp : p.block = g ∨ a.heap.size ≤ p.block) (u : Value) : a.grownBy (w.setCell p u) (some g) :=
  ⟨h.os, h.tape, h.output, by simpa [World.setCell] using h.size, fun i hi hne => (Below.heap_setCell w p u i (by
    rintro rfl
    rcases hp with hp | hp
    · exact hne (by rw [hp])
    · omega)).trans (h.block i hi hne)⟩
theorem only_trans {w1 w2 w3 : World} {row : Option Nat} (h : w1.grownBy w2 row) (k : w2.grownBy w3 row) : w1.grownBy w3 row :=
  ⟨k.os.trans h.os, k.tape.trans h.tape, k.output.trans h.output, Nat.le_trans h.size k.size, fun i hi hne => (k.block i (Nat.lt_of_lt_of_le hi h.size) hne).trans (h.block i hi hne)⟩
/-- where the numbering stands: M is the map, V the variable that holds it, G the row of numbers -/
structure Nm (w wr : World) (V M G n n0 k : Nat) (ss d0 d : List ByteArray) (D : DataW Unit) : Prop where
  mp : wr.ownsMap Try.prog 9 (plainElem Try.prog 3) M (n0 + k) D
  nm : NumMap D d
  fr : ∃ e, d = d0 ++ e
  len : d.length ≤ n0 + k
  mem : ∀ s ∈ ss.take k, s ∈ d
  vc : wr.heap[V]? = some (.cells #[.map (some M)] 101 (0, 0))
  row : wr.rowIs G 3 n (fun i => if i < k then .int .i64 ((place (ss.getD i ByteArray.empty) d : Nat) : Int) else .int .i64 0)
  on : w.grownBy wr (some M)
theorem take_snoc {α : Type} (l : List α) (k : Nat) (z : α) (h : k < l.length) : l.take (k + 1) = l.take k ++ [l.getD k z] := by
  rw [List.take_succ_eq_append_getElem h]
  simp [List.getD, h]
/-- one more line that is known: its number is laid -/
theorem Nm.step {w wr : World} {V M G n n0 k : Nat} {ss d0 d : List ByteArray} {D : DataW Unit} (h : Nm w wr V M G n n0 k ss d0 d D) (hk : k < ss.length) (hin : ss.getD k ByteArray.empty ∈ d) (hVG : V ≠ G) (hMG : M ≠ G) (hG : w.heap.size ≤ G) :
    Nm w (wr.setCell ⟨G, k, none⟩ (.int .i64 ((place (ss.getD k ByteArray.empty) d : Nat) : Int))) V M G n n0 (k + 1) ss d0 d D := by
  refine ⟨(h.mp.setCell hMG _).mono (by omega), h.nm, h.fr, by have := h.len; omega, ?_, ?_, ?_, ?_⟩
  · intro s hs
    rw [take_snoc ss k ByteArray.empty hk] at hs
    rcases List.mem_append.1 hs with hs | hs
    · exact h.mem s hs
    · simp at hs; subst hs; simpa [List.getD, hk] using hin
  · rw [Below.heap_setCell _ _ _ _ hVG]; exact h.vc
  · refine (h.row.set k _).congr (fun i hi => ?_)
    by_cases e : i = k
    · subst e
      rw [if_pos rfl, if_pos (Nat.lt_succ_self _)]
    · rw [if_neg e]
      by_cases e2 : i < k
      · rw [if_pos e2, if_pos (by omega)]
      · rw [if_neg e2, if_neg (by omega)]
  · exact only_setCell h.on (.inr hG) _
/-- a line that is new: the map knows it now -/
theorem Nm.put {w wr w1 : World} {V M G n n0 k : Nat} {ss d0 d : List ByteArray} {D : DataW Unit} (h : Nm w wr V M G n n0 k ss d0 d D) (hk : k < ss.length) (hin : ss.getD k ByteArray.empty ∉ d) (hVM : V ≠ M) (hMG : M ≠ G)
    (hm : w1.ownsMap Try.prog 9 (plainElem Try.prog 3) M (n0 + k + 1) (D.put (key (ss.getD k ByteArray.empty)) (.lit (.int .i64 ((d.length : Nat) : Int))))) (hg : wr.grownBy w1 (some M)) (hG : w.heap.size ≤ G) :
    Nm w (w1.setCell ⟨G, k, none⟩ (.int .i64 ((place (ss.getD k ByteArray.empty) (d ++ [ss.getD k ByteArray.empty]) : Nat) : Int))) V M G n n0 (k + 1) ss d0 (d ++ [ss.getD k ByteArray.empty]) (D.put (key (ss.getD k ByteArray.empty)) (.lit (.int .i64 ((d.length : Nat) : Int)))) := by
  have hrow : w1.rowIs G 3 n (fun i => if i < k then .int .i64 ((place (ss.getD i ByteArray.empty) d : Nat) : Int) else .int .i64 0) :=
    h.row.of_block (hg.block G h.row.lt (by intro e; injection e with e; exact hMG e.symm))
  have hvc : w1.heap[V]? = some (.cells #[.map (some M)] 101 (0, 0)) := (hg.block V (lt_of_block h.vc) (by intro e; injection e with e; exact hVM e)).trans h.vc
  have hVG : V ≠ G := by
    rintro rfl
    obtain ⟨c, hc, _⟩ := h.row
    rw [h.vc] at hc
    simp at hc
  have hmem : ∀ s ∈ ss.take k, s ∈ d := h.mem
  refine ⟨hm.setCell hMG _, h.nm.put _ hin, ?_, by rw [List.length_append]; have := h.len; simp; omega, ?_, ?_, ?_, ?_⟩
  · obtain ⟨e, he⟩ := h.fr
    exact ⟨e ++ [ss.getD k ByteArray.empty], by rw [he, List.append_assoc]⟩
  · intro s hs
    rw [take_snoc ss k ByteArray.empty hk] at hs
    rcases List.mem_append.1 hs with hs | hs
    · exact List.mem_append_left _ (h.mem s hs)
    · exact List.mem_append_right _ hs
  · rw [Below.heap_setCell _ _ _ _ hVG]; exact hvc
  · refine (hrow.set k _).congr (fun i hi => ?_)
    by_cases e : i = k
    · subst e
      rw [if_pos rfl, if_pos (Nat.lt_succ_self _)]
    · rw [if_neg e]
      by_cases e2 : i < k
      · rw [if_pos e2, if_pos (by omega), place_mem _ (hmem _ ?_)]
        have hi2 : i < ss.length := by omega
        rw [show ss.getD i ByteArray.empty = ss[i] from by simp [List.getD, hi2]]
        exact List.mem_take_iff_getElem.2 ⟨i, by omega, rfl⟩
      · rw [if_neg e2, if_neg (by omega)]
  · exact only_setCell (only_trans h.on hg) (.inr hG) _
/-- numbers of lines -/
def nums (ss d : List ByteArray) : List Value := nv (ss.map fun s => place s d)
/-- what the numbering function answers -/
def NumRet (V M n0 l : Nat) (ss d0 : List ByteArray) (w : World) (e : Ending) (w' : World) : Prop :=
  ∃ G d D, e = .returned (.slice (some ⟨G, 0, none⟩) l l) ∧ w'.ownsMap Try.prog 9 (plainElem Try.prog 3) M (n0 + l) D ∧ NumMap D d ∧ d.length ≤ n0 + l ∧ (∃ e, d = d0 ++ e) ∧ (∀ s ∈ ss, s ∈ d) ∧
    w'.ownsRow w.heap.size 3 1 (.slice (some ⟨G, 0, none⟩) l l) l (nums ss d) ∧ w'.heap[V]? = some (.cells #[.map (some M)] 101 (0, 0)) ∧ w.grownBy w' (some M)
theorem infoI : (Try.prog.info? 3).map (fun i => (i.zero, i.size, i.bytes)) = some (some (.int .i64 0), 1, 8) := by kernel_rfl
set_option maxRecDepth 100000 in
set_option maxHeartbeats 1000000 in
theorem closure_any (V M n0 : Nat) (D0 : DataW Unit) (d0 ss : List ByteArray) (B : Nat) (a : Option Addr) (l c : Nat) (w : World) (hv : w.heap[V]? = some (.cells #[.map (some M)] 101 (0, 0)))
    (hm : w.ownsMap Try.prog 9 (plainElem Try.prog 3) M n0 D0) (hn : NumMap D0 d0) (hd : d0.length ≤ n0) (hr : Rd w B a l c (sv ss)) (hs : ∀ s ∈ ss, s.size ≤ maxLen) (hl : l ≤ 4000) (h0 : n0 ≤ 4000) :
    Calls Try.prog 60 #[.slice a l c, .pointer (some ⟨V, 0, none⟩)] w (NumRet V M n0 l ss d0 w) := by
  have hls : ss.length = l := by have := hr.hlen; simpa [sv] using this
  have hmk := fun W => run_make_row' (P := Try.prog) 49 3 (.int .i64 0) 8 Try.underlying49 infoI rfl .i64 .i64 l (by omega) (by omega) W
  have HV := Lib.hid hv
  have HM := Lib.hid hm
  have HN := Lib.hid hn
  have HR := Lib.hid hr
  have HS := Lib.hid hs
  have HL := Lib.hid hls
  have hVM : V ≠ M := by
    rintro rfl
    obtain ⟨es, clock, hb, _⟩ := hm
    rw [hv] at hb
    simp at hb
  have hMc : ∀ x o v, w.cell? ⟨x, o, none⟩ = some v → x ≠ M := by
    rintro x o v hc rfl
    obtain ⟨es, clock, hb, _⟩ := hm
    simp [World.cell?, hb] at hc
  have hVlt := lt_of_block hv
  have hMlt := hm.lt
  clear hv hm hn hr hs hls
  go_enter Try.func60, Try.ntmps60
  go_wp2
  have HW : Hid (Nm w (w.alloc (.cells (madeCells #[.int .i64 0] l) 3)) V M w.heap.size l n0 0 ss d0 d0 D0) := by
    refine Lib.hid ⟨HM.out.alloc _, HN.out, ⟨[], by simp⟩, by omega, by simp, ?_, ?_, ?_⟩
    · rw [Below.heap_alloc _ _ _ hVlt]; exact HV.out
    · exact (World.rowIs_made w (.int .i64 0) l 3).congr (fun i _ => by simp)
    · exact World.grownBy_alloc _ _ _
  obtain ⟨G, hG⟩ : ∃ G, G = w.heap.size := ⟨_, rfl⟩
  rw [← hG] at HW ⊢
  have hVG : V ≠ G := by omega
  have hMG : M ≠ G := by omega
  have HG := Lib.hid hG
  clear hG hmk
  generalize World.alloc _ _ = W1 at *
  go_loopw [14] (fun s14 wr => ∃ (k : Nat) (d : List ByteArray) (D : DataW Unit), k ≤ l ∧ s14 = .int .i64 k ∧ Hid (Nm w wr V M G l n0 k ss d0 d D)) (fun s14 _ => l - (intOf s14).toNat)
  case atStart => exact ⟨0, d0, D0, Nat.zero_le _, rfl, HW⟩
  case round =>
    clear HW HM HN HV
    obtain ⟨k, d, D, hk, rfl, HK⟩ := hrel
    by_cases hlt : k < l
    · have hon := HK.out.on
      obtain ⟨x1, o1, rfl, hb1, hc0⟩ := HR.out.str k hlt
      have hc1 := hon.cell hc0 (by
        intro e
        injection e with e
        exact hMc x1 _ _ hc0 e)
      have hcv := cell_of_one HK.out.vc
      obtain ⟨s, hse⟩ : ∃ s, s = ss.getD k ByteArray.empty := ⟨_, rfl⟩
      rw [← hse] at hc1
      have hsm : s ∈ ss := by rw [hse]; have := HL.out; simp [List.getD, show k < ss.length from by omega]
      have hkey : keyOf Try.prog 9 (.string s) = some (key s) := WideMaps.keyOf_string_mk Try.underlying9 (HS.out s hsm)
      have hrc := HK.out.row.cell hlt
      have hrf := HK.out.row.frozen k
      simp at hrc
      have HSE := Lib.hid hse
      have hmp := HK.out.mp
      clear hc0 hon hse
      by_cases hin : s ∈ d
      · have hhas : Maps.has D (key s) = true := (HK.out.nm.has s).2 hin
        have HAT := Lib.hid (HK.out.nm.at_ s hin)
        have HIN := Lib.hid hin
        clear hin
        go_wp2_with (first | (at_lookup; refine wpList_lookup_own_ok_int _ rfl _ _ 101 rfl 9 3 .i64 lawS Try.underlying101 Try.underlying3 (zeroI _) M (n0 + k) D rfl hmp _ _ rfl hkey ?_; intro c1 hat1 hwc1; clear hat1 hwc1) | (at_lookup; refine wpList_lookup_own_int _ rfl _ _ 101 rfl 9 3 .i64 lawS Try.underlying101 Try.underlying3 (zeroI _) M (n0 + k) D rfl hmp _ _ rfl hkey ?_; intro c2 hat2 hwc2))
        obtain rfl : c2 = ((place s d : Nat) : Int) := by
          have := HAT.out (.lit (.int .i64 0))
          rw [this] at hat2
          simpa using hat2.symm
        go_roundw
        case rel => exact ⟨k + 1, d, D, by omega, by go_num, Lib.hid (by have := HK.out.step (by rw [HL.out]; exact hlt) (by rw [← HSE.out]; exact HIN.out) hVG hMG (by rw [HG.out]; exact Nat.le_refl _); rw [← HSE.out] at this; exact this)⟩
        case measure => simp [intOf]; omega
      · have hhas : Maps.has D (key s) = false := by
          cases e : Maps.has D (key s)
          · rfl
          · exact absurd ((HK.out.nm.has s).1 e) hin
        have hsz := HK.out.nm.size
        have hln := HK.out.len
        have hpl := place_new hin
        have HNIN := Lib.hid hin
        have HPUT := Lib.hid (HK.out.nm.put s hin)
        have hzz : Maps.size D ≤ 8000 := by omega
        have HZ := Lib.hid hsz
        have HPL := Lib.hid hpl
        clear hin hsz hln hpl
        go_wp2_with (first | (at_lookup; refine wpList_lookup_own_ok_int _ rfl _ _ 101 rfl 9 3 .i64 lawS Try.underlying101 Try.underlying3 (zeroI _) M (n0 + k) D rfl hmp _ _ rfl hkey ?_; intro c1 hat1 hwc1; clear hat1 hwc1) | (at_len; refine wpList_len_own _ rfl _ 101 rfl 9 3 Try.underlying101 (plainElem Try.prog 3) M (n0 + k) D rfl hmp ?_) | (at_mapUpdate; refine wpList_mapUpdate_own _ rfl _ _ _ 101 rfl 9 3 lawS Try.underlying101 _ M (n0 + k) D rfl hmp (by unfold maxLen; omega) _ _ _ rfl rfl hkey _ [] (plainElem_int Try.underlying3 (WalkArith.wf_i64 (by omega))) ?_; intro w1 hmp1 hgrow1; clear hmp; have hcv1 := hgrow1.cell hcv (by intro e; injection e with e; exact hVM e); have hrc1 := hgrow1.cell hrc (by intro e; injection e with e; exact hMG e.symm); have hrf1 := (World.frozen?_of_block (w := wr) (a := ⟨G, k, none⟩) (hgrow1.block G HK.out.row.lt (by intro e; injection e with e; exact hMG e.symm))).trans hrf; clear hcv hrc hrf) | (at_lookup; refine wpList_lookup_own_int _ rfl _ _ 101 rfl 9 3 .i64 lawS Try.underlying101 Try.underlying3 (zeroI _) M (n0 + k + 1) _ rfl hmp1 _ _ rfl hkey ?_; intro c2 hat2 hwc2))
        have HAT := Lib.hid (HPUT.out.at_ s (by simp))
        have HGR := Lib.hid hgrow1
        clear hgrow1
        rw [HZ.out] at hmp1 hat2
        obtain rfl : c2 = ((place s (d ++ [s]) : Nat) : Int) := by
          have := HAT.out (.lit (.int .i64 0))
          rw [this] at hat2
          simpa using hat2.symm
        go_roundw
        case rel => exact ⟨k + 1, d ++ [s], _, by omega, by go_num, Lib.hid (by have := HK.out.put (w1 := w1) (by rw [HL.out]; exact hlt) (by rw [← HSE.out]; exact HNIN.out) hVM hMG (by rw [← HSE.out]; exact hmp1) HGR.out (by rw [HG.out]; exact Nat.le_refl _); rw [← HSE.out] at this; exact this)⟩
        case measure => simp [intOf]; omega
    · obtain rfl : k = l := by omega
      go_wp2
      go_ret
      refine ⟨G, d, D, rfl, HK.out.mp, HK.out.nm, HK.out.len, HK.out.fr, ?_, ?_, HK.out.vc, HK.out.on⟩
      · have := HK.out.mem
        rwa [List.take_of_length_le (by rw [HL.out]; exact Nat.le_refl _)] at this
      · have hrow := rowIs_own (HK.out.row.congr (g := fun i => .int .i64 ((place (ss.getD i ByteArray.empty) d : Nat) : Int)) (fun i hi => if_pos hi)) (B := w.heap.size) (by rw [HG.out]; exact Nat.le_refl _) (by unfold maxLen; omega)
        have e : (List.range k).map (fun i => Value.int .i64 ((place (ss.getD i ByteArray.empty) d : Nat) : Int)) = nums ss d := by
          apply List.ext_getElem
          · simp [nums, nv, HL.out]
          · intro i h1 h2
            simp at h1
            have : i < ss.length := by rw [HL.out]; exact h1
            simp [nums, nv, this]
        rw [e] at hrow
        exact hrow
end Go.Proofs.Ytlaneilmffdahaa.Ln
