/- The lines that a script inserts; a script done makes the other side. The document's Added, walked. -/
import Derived.Test.YtfgmnfcakeenmaaLnFirst
import Derived.Test.YtfgmnfcakeenmaaLnApply
namespace Go.Proofs.Ytfgmnfcakeenmaa.Ln
open Go.RowKit
set_option linter.unusedVariables false

/-- the lines of b that a script inserts -/
def adE {α : Type} : List (Nat × Nat) → List α → List α
  | [], _ => []
  | (op, n) :: l, b => (if op = 2 then b.take n else []) ++ adE l (if op = 1 then b else b.drop n)
/-- how many lines of b a script goes over -/
def bsum (l : List (Nat × Nat)) : Nat := (l.map fun x => if x.1 = 1 then 0 else x.2).sum
theorem bsum_cons (x : Nat × Nat) (l : List (Nat × Nat)) : bsum (x :: l) = (if x.1 = 1 then 0 else x.2) + bsum l := by simp [bsum]
theorem bsum_append (l m : List (Nat × Nat)) : bsum (l ++ m) = bsum l + bsum m := by simp [bsum]
theorem bsum_flat : ∀ l : List (Nat × Nat), bsum l = (flat l).countP (fun x => decide (x ≠ 1))
  | [] => by simp [bsum, flat]
  | (op, n) :: l => by
      rw [bsum_cons, flat_cons, List.countP_append, ← bsum_flat l]
      congr 1
      by_cases e : op = 1
      · simp [e, List.countP_replicate]
      · simp [e, List.countP_replicate]
theorem countb {α : Type} [DecidableEq α] : ∀ a b : List α, (steps a b).countP (fun x => decide (x ≠ 1)) = b.length
  | [], b => by rw [steps_nil_left, List.countP_replicate]; simp
  | x :: a, [] => by rw [steps_nil_right, List.countP_replicate]; simp
  | x :: a, y :: b => by
      have h1 := countb a b
      have h2 := countb a (y :: b)
      have h3 := countb (x :: a) b
      rw [steps_cons]
      split
      · rw [List.countP_cons_of_pos (by simp), h1]; rfl
      · split
        · rw [List.countP_cons_of_neg (by simp), h2]
        · rw [List.countP_cons_of_pos (by simp), h3]; rfl
termination_by a b => a.length + b.length
theorem bsum_scr {α : Type} [DecidableEq α] (a b : List α) : bsum (scr a b) = b.length := by rw [bsum_flat, flat_scr, countb]

/-- steps of one kind in a row -/
theorem steps_run {α : Type} [DecidableEq α] (op : Nat) (rest : List Nat) : ∀ (n : Nat) (a b : List α), steps a b = List.replicate n op ++ rest →
    (op = 0 → ∃ p a' b', a = p ++ a' ∧ b = p ++ b' ∧ p.length = n ∧ steps a' b' = rest) ∧
    (op = 1 → ∃ p a', a = p ++ a' ∧ p.length = n ∧ steps a' b = rest) ∧
    (op = 2 → ∃ p b', b = p ++ b' ∧ p.length = n ∧ steps a b' = rest)
  | 0, a, b, h => ⟨fun _ => ⟨[], a, b, rfl, rfl, rfl, by simpa using h⟩, fun _ => ⟨[], a, rfl, rfl, by simpa using h⟩, fun _ => ⟨[], b, rfl, rfl, by simpa using h⟩⟩
  | n + 1, a, b, h => by
      rw [List.replicate_succ, List.cons_append] at h
      rcases step_head h with ⟨e, x, p', q', rfl, rfl, hr, _⟩ | ⟨e, x, p', rfl, hr, _⟩ | ⟨e, y, q', rfl, hr, _⟩
      · have ih := (steps_run op rest n p' q' hr.symm).1 e
        obtain ⟨p, a', b', rfl, rfl, hl, hs⟩ := ih
        exact ⟨fun _ => ⟨x :: p, a', b', rfl, rfl, by simp [hl], hs⟩, fun g => by omega, fun g => by omega⟩
      · have ih := (steps_run op rest n p' b hr.symm).2.1 e
        obtain ⟨p, a', rfl, hl, hs⟩ := ih
        exact ⟨fun g => by omega, fun _ => ⟨x :: p, a', rfl, by simp [hl], hs⟩, fun g => by omega⟩
      · have ih := (steps_run op rest n a q' hr.symm).2.2 e
        obtain ⟨p, b', rfl, hl, hs⟩ := ih
        exact ⟨fun g => by omega, fun g => by omega, fun _ => ⟨y :: p, b', rfl, by simp [hl], hs⟩⟩

/-- kinds that stand beside one another differ -/
def okd : List Nat → Prop
  | a :: b :: t => a ≠ b ∧ okd (b :: t)
  | _ => True
theorem okd_snoc : ∀ (l : List Nat) (o p : Nat), okd (l ++ [o]) → o ≠ p → okd (l ++ [o] ++ [p])
  | [], o, p, h, hne => ⟨hne, trivial⟩
  | [a], o, p, h, hne => ⟨h.1, hne, trivial⟩
  | a :: b :: t, o, p, h, hne => ⟨h.1, okd_snoc (b :: t) o p h.2 hne⟩
/-- such as add makes -/
def Good (l : List (Nat × Nat)) : Prop := okd (l.map (·.1)) ∧ ∀ x ∈ l, 1 ≤ x.2 ∧ x.1 ≤ 2
theorem good_add {l : List (Nat × Nat)} {op n : Nat} (h : Good l) (ho : op ≤ 2) : Good (add l op n) := by
  by_cases hn : n = 0
  · subst hn; rw [add_zero]; exact h
  rcases List.eq_nil_or_concat l with rfl | ⟨l', ⟨o, k⟩, rfl⟩
  · rw [add_nil op n (by omega)]
    exact ⟨trivial, fun x hx => by simp at hx; subst hx; exact ⟨by simp; omega, ho⟩⟩
  · rw [List.concat_eq_append] at h ⊢
    by_cases e : o = op
    · subst e
      rw [add_same l' o n k (by omega)]
      refine ⟨by simpa using h.1, fun x hx => ?_⟩
      rcases List.mem_append.1 hx with hx | hx
      · exact h.2 x (List.mem_append_left _ hx)
      · simp at hx; subst hx; exact ⟨by simp; omega, ho⟩
    · rw [add_other l' o op n k (by omega) e]
      refine ⟨?_, fun x hx => ?_⟩
      · have h1 := h.1
        simp only [List.map_append, List.map_cons, List.map_nil] at h1 ⊢
        exact okd_snoc _ _ _ h1 e
      · rcases List.mem_append.1 hx with hx | hx
        · exact h.2 x hx
        · simp at hx; subst hx; exact ⟨by simp; omega, ho⟩
theorem good_pack : ∀ (s : List Nat) (l : List (Nat × Nat)), Good l → (∀ x ∈ s, x ≤ 2) → Good (pack l s)
  | [], l, h, _ => by simpa [pack] using h
  | x :: s, l, h, hs => by
      rw [pack_cons]
      exact good_pack s _ (good_add h (hs x List.mem_cons_self)) (fun y hy => hs y (List.mem_cons_of_mem _ hy))
theorem steps_le2 {α : Type} [DecidableEq α] : ∀ a b : List α, ∀ x ∈ steps a b, x ≤ 2
  | [], b => by rw [steps_nil_left]; intro x hx; rw [List.eq_of_mem_replicate hx]; omega
  | x :: a, [] => by rw [steps_nil_right]; intro x hx; rw [List.eq_of_mem_replicate hx]; omega
  | x :: a, y :: b => by
      have h1 := steps_le2 a b
      have h2 := steps_le2 a (y :: b)
      have h3 := steps_le2 (x :: a) b
      rw [steps_cons]
      intro z hz
      split at hz
      · rcases List.mem_cons.1 hz with rfl | hz
        · omega
        · exact h1 z hz
      · split at hz
        · rcases List.mem_cons.1 hz with rfl | hz
          · omega
          · exact h2 z hz
        · rcases List.mem_cons.1 hz with rfl | hz
          · omega
          · exact h3 z hz
termination_by a b => a.length + b.length
theorem good_scr {α : Type} [DecidableEq α] (a b : List α) : Good (scr a b) := good_pack _ _ ⟨trivial, fun x hx => by simp at hx⟩ (steps_le2 a b)

/-- edits as integers -/
def ze (l : List (Nat × Nat)) : List (Int × Int) := l.map fun x => ((x.1 : Int), (x.2 : Int))

/-- a script of steps, done with the lines that it inserts -/
theorem aps_steps {α : Type} [DecidableEq α] : ∀ (l : List (Nat × Nat)) (prev : Option Int) (a b out : List α), okd (l.map (·.1)) → (∀ x ∈ l, 1 ≤ x.2 ∧ x.1 ≤ 2) → (∀ x, l.head? = some x → prev ≠ some (x.1 : Int)) → flat l = steps a b →
    apS prev a (ze l) (adE l b) out = (out ++ b, 0)
  | [], prev, a, b, out, _, _, _, hf => by
      have h0 : steps a b = [] := by rw [← hf]; rfl
      have ha : a.length + b.length = 0 := by
        rcases Nat.eq_zero_or_pos (a.length + b.length) with h | h
        · exact h
        · have := steps_pos a b h
          rw [h0] at this; simp at this
      have ha1 : a = [] := List.eq_nil_of_length_eq_zero (by omega)
      have hb1 : b = [] := List.eq_nil_of_length_eq_zero (by omega)
      subst ha1 hb1
      show apS prev [] [] [] out = _
      rw [apS_end (by simp), List.append_nil]
  | (op, n) :: l, prev, a, b, out, hok, hx, hp, hf => by
      have h1 := hx (op, n) List.mem_cons_self
      simp only at h1
      have hok2 : okd (l.map (·.1)) := by
        cases l with
        | nil => trivial
        | cons y t => exact hok.2
      have hp2 : ∀ x, l.head? = some x → (some (op : Int)) ≠ some (x.1 : Int) := by
        intro x hx e
        cases l with
        | nil => simp at hx
        | cons y t =>
          simp at hx
          subst hx
          have hh : op ≠ y.1 := hok.1
          injection e with e
          exact hh (by omega)
      have hx2 : ∀ x ∈ l, 1 ≤ x.2 ∧ x.1 ≤ 2 := fun x h => hx x (List.mem_cons_of_mem _ h)
      have hpp := hp (op, n) rfl
      simp only at hpp
      rw [flat_cons] at hf
      have hrun := steps_run op (flat l) n a b hf.symm
      have hze : ze ((op, n) :: l) = ((op : Int), (n : Int)) :: ze l := rfl
      have hn : ¬ (n : Int) < 1 := by omega
      rw [hze]
      have ho : op = 0 ∨ op = 1 ∨ op = 2 := by omega
      rcases ho with rfl | rfl | rfl
      · obtain ⟨p, a', b', rfl, rfl, hl, hs⟩ := hrun.1 rfl
        have ih := aps_steps l (some 0) a' b' (out ++ p) hok2 hx2 hp2 hs.symm
        have e1 : adE ((0, n) :: l) (p ++ b') = adE l b' := by simp [adE, ← hl]
        rw [e1]
        show apS prev (p ++ a') ((0, (n : Int)) :: ze l) _ out = _
        rw [apS_zero hn hpp (by rw [List.length_append]; omega), Int.toNat_natCast, ← hl, List.drop_left, List.take_left, ih, List.append_assoc]
      · obtain ⟨p, a', rfl, hl, hs⟩ := hrun.2.1 rfl
        have ih := aps_steps l (some 1) a' b out hok2 hx2 hp2 hs.symm
        have e1 : adE ((1, n) :: l) b = adE l b := by simp [adE]
        rw [e1]
        show apS prev (p ++ a') ((1, (n : Int)) :: ze l) _ out = _
        rw [apS_one hn hpp (by rw [List.length_append]; omega), Int.toNat_natCast, ← hl, List.drop_left, ih]
      · obtain ⟨p, b', rfl, hl, hs⟩ := hrun.2.2 rfl
        have ih := aps_steps l (some 2) a b' (out ++ p) hok2 hx2 hp2 hs.symm
        have e1 : adE ((2, n) :: l) (p ++ b') = p ++ adE l b' := by simp [adE, ← hl]
        rw [e1]
        show apS prev a ((2, (n : Int)) :: ze l) _ out = _
        rw [apS_two hn hpp (by rw [List.length_append]; omega), Int.toNat_natCast, ← hl, List.drop_left, List.take_left, ih, List.append_assoc]
theorem aps_scr {α : Type} [DecidableEq α] (a b : List α) : apS none a (ze (scr a b)) (adE (scr a b) b) [] = (b, 0) := by
  have h := good_scr a b
  have := aps_steps (scr a b) none a b [] h.1 h.2 (fun x _ e => by cases e) (flat_scr a b)
  simpa using this

theorem adE_cons {α : Type} (op n : Nat) (l : List (Nat × Nat)) (b : List α) : adE ((op, n) :: l) b = (if op = 2 then b.take n else []) ++ adE l (if op = 1 then b else b.drop n) := rfl
theorem adE_len {α : Type} : ∀ (l : List (Nat × Nat)) (b : List α), bsum l ≤ b.length → (adE l b).length ≤ b.length
  | [], b, _ => Nat.zero_le _
  | (op, n) :: l, b, h => by
      rw [bsum_cons] at h
      rw [adE_cons, List.length_append]
      by_cases e : op = 1
      · rw [if_pos e, if_neg (by omega)]
        rw [if_pos e] at h
        have := adE_len l b (by omega)
        simpa using this
      · rw [if_neg e]
        rw [if_neg e] at h
        simp only at h
        have := adE_len l (b.drop n) (by rw [List.length_drop]; omega)
        rw [List.length_drop] at this
        split
        · rw [List.length_take]; omega
        · simp; omega

theorem own_block2 {w : World} {B e g N C n sz : Nat} {xs : List Value} (h : w.ownsRow B e sz (.slice (some ⟨g, 0, none⟩) N C) n xs) : g < w.heap.size := by
  rcases h.2 with ⟨hv, _⟩ | ⟨g', cap, cur, hv, hg, hh, _⟩
  · simp at hv
  · simp only [Value.slice.injEq, Option.some.injEq, Addr.mk.injEq, and_true] at hv
    obtain ⟨rfl, _⟩ := hv
    exact lt_of_block hh
theorem rde_of_own {w : World} {B : Nat} {A : Option Addr} {C : Nat} {l : List (Nat × Nat)} (h : w.ownsRow B 48 2 (.slice A l.length C) l.length (ed l)) (hl : l.length ≤ 140737488355328) : RdE w w.heap.size A l.length C (ze l) := by
  have hlen := own_edit_len h
  have hc := hlen.2
  unfold maxLen at hc
  refine ⟨by simp [ze], hc.1, hc.2, hl, ?_, ?_⟩
  · intro hn
    rcases h.2 with ⟨hv, h0⟩ | ⟨g, cap, cur, hv, hg, hh, hc1, hc2, hc3, ht⟩
    · simp only [Value.slice.injEq] at hv; exact hv.2.2
    · subst hn; simp at hv
  · intro i hi
    have hi2 : i < l.length := by simpa [ze] using hi
    obtain ⟨g, rfl, e1, e2⟩ := own_edit h i hi2
    refine ⟨g, 0, rfl, own_block2 h, ?_, ?_⟩
    · rw [Nat.zero_add]; simpa [ze] using e1
    · rw [Nat.zero_add]; simpa [ze] using e2

theorem mem_tot {l : List (Nat × Nat)} {x : Nat × Nat} (h : x ∈ l) : x.2 ≤ tot l := by
  induction l with
  | nil => simp at h
  | cons y l ih =>
    rw [tot_cons]
    rcases List.mem_cons.1 h with rfl | h
    · omega
    · have := ih h; omega

/-- what Added answers -/
def AdRet (r : List ByteArray) (w : World) (e : Ending) (w' : World) : Prop := ∃ v, e = .returned v ∧ w'.ownsRow w.heap.size 9 1 v r.length (sv r) ∧ Below w.heap.size w w'

set_option maxRecDepth 100000 in
set_option maxHeartbeats 1000000 in
theorem added_any (B : Nat) (A : Option Addr) (C : Nat) (l : List (Nat × Nat)) (b : Option Addr) (lb cb : Nat) (sb : List ByteArray) (w : World) (h1 : w.ownsRow B 48 2 (.slice A l.length C) l.length (ed l)) (h2 : Rd w w.heap.size b lb cb (sv sb)) (hl : l.length ≤ 1000000) (hlb : lb ≤ 1000000) (hb : bsum l ≤ lb) :
    Calls Try.prog 22 #[.slice A l.length C, .slice b lb cb] w (AdRet (adE l sb) w) := by
  have lsb : sb.length = lb := by have := h2.hlen; simpa [sv] using this
  have q1 := h2.hcap
  have q2 := h2.hmax
  have q3 := (own_edit_len h1).2
  unfold maxLen at q3
  have H1 := Lib.hid h1
  have H2 := Lib.hid h2
  have L2 := Lib.hid lsb
  have HB := Lib.hid hb
  clear h1 h2 lsb hb
  go_enter Try.func22, Try.ntmps22
  go_wp2
  go_loopw [5, 6, 7] (fun s5 s6 s7 wr => ∃ (n k : Nat) (out : List ByteArray), n ≤ l.length ∧ k ≤ lb ∧ s7 = .int .i64 n ∧ s6 = .int .i64 k ∧ Hid (wr.ownsRow w.heap.size 9 1 s5 out.length (sv out) ∧ Below w.heap.size w wr) ∧ Hid (adE l sb = out ++ adE (l.drop n) (sb.drop k)) ∧ Hid (k + bsum (l.drop n) ≤ lb) ∧ out.length ≤ k) (fun _ _ s7 _ => l.length - (intOf s7).toNat)
  case atStart => exact ⟨0, 0, [], Nat.zero_le _, Nat.zero_le _, rfl, rfl, Lib.hid ⟨World.ownsRow_nil _ _ _ _, Below.refl _ _⟩, Lib.hid (by simp), Lib.hid (by simpa using HB.out), by simp⟩
  case round =>
    obtain ⟨n, k, out, hn, hk, rfl, rfl, HO, HA, HK, hout⟩ := hrel
    obtain ⟨Ao, No, Co, rfl⟩ := own_slice HO.out.1
    by_cases hlt : n < l.length
    · obtain ⟨g, rfl, e1, e2⟩ := own_edit (own_keep H1.out HO.out.2) n hlt
      have hd : l.drop n = l[n] :: l.drop (n + 1) := List.drop_eq_getElem_cons hlt
      have ha := HA.out
      have hk2 := HK.out
      rw [hd] at ha hk2
      rw [bsum_cons] at hk2
      obtain ⟨op, m, hxe⟩ : ∃ op m, l[n] = (op, m) := ⟨_, _, rfl⟩
      rw [hxe] at e1 e2 ha hk2
      rw [adE_cons] at ha
      simp only at e1 e2 hk2
      have hsz := HO.out.2.size
      have HXE := Lib.hid hxe
      clear hd hxe
      by_cases h2 : op = 2
      · subst h2
        rw [if_neg (by omega)] at hk2
        rw [if_pos rfl, if_neg (by omega), List.drop_drop, ← List.append_assoc] at ha
        have HA2 := Lib.hid ha
        have HK2 : Hid (k + m + bsum (l.drop (n + 1)) ≤ lb) := Lib.hid (by omega)
        have hkm : k + m ≤ lb := by omega
        obtain ⟨A9, hA9⟩ : ∃ A, (if cb = k then b else Option.map (fun x => x.add k) b) = A := ⟨_, rfl⟩
        have hR : Rd wr w.heap.size A9 m (cb - k) (sv ((sb.drop k).take m)) := by
          have := ((H2.out.below HO.out.2).cut k hk).take m (by omega)
          rw [hA9, show ((sv sb).drop k).take m = sv ((sb.drop k).take m) from by simp [sv]] at this
          exact this
        have HRR := Lib.hid hR
        have hbnd : (out.length + m) * 16 ≤ 140737488355328 := by omega
        clear ha hk2 HA HK hR
        go_wp2_with (at_builtin; refine wpList_append_strs _ rfl _ _ rfl w.heap.size (.slice Ao No Co) out.length out rfl HO.out.1 w.heap.size A9 m (cb - k) ((sb.drop k).take m) ?hx HRR.out (out.length + m) rfl (out ++ (sb.drop k).take m) rfl hbnd hsz ?_)
        case hx =>
          show Value.slice _ _ _ = _
          simp only [Nat.add_sub_cancel_left]
        intro A5 C5 w5 ho5 hb5 hk5
        have hlo : out.length + m = (out ++ (sb.drop k).take m).length := by rw [List.length_append, List.length_take, List.length_drop, L2.out]; omega
        have HO5 : Hid (w5.ownsRow w.heap.size 9 1 (.slice A5 (out.length + m) C5) (out ++ (sb.drop k).take m).length (sv (out ++ (sb.drop k).take m)) ∧ Below w.heap.size w w5) := Lib.hid ⟨by rw [← hlo]; exact ho5, HO.out.2.trans hb5⟩
        have hsum2 : (out ++ (sb.drop k).take m).length ≤ k + m := by omega
        obtain ⟨g', hg', f1, f2⟩ := own_edit (own_keep H1.out HO5.out.2) n hlt
        simp only [Option.some.injEq, Addr.mk.injEq, and_true] at hg'
        subst hg'
        rw [HXE.out] at f1 f2
        simp only at f1 f2
        clear ho5 hb5 hk5 hA9 hlo e1 e2
        go_wp2
        go_roundw
        case rel => exact ⟨n + 1, k + m, _, by omega, by omega, by go_num, by go_num, HO5, HA2, HK2, hsum2⟩
        case measure => simp [intOf]; omega
      · have hb2 : ((op : Int) == 2) = false := by simp; omega
        rw [if_neg h2, List.nil_append] at ha
        by_cases h1 : op = 1
        · subst h1
          rw [if_pos rfl] at ha hk2
          have HA2 := Lib.hid ha
          have HK2 : Hid (k + bsum (l.drop (n + 1)) ≤ lb) := Lib.hid (by omega)
          clear ha hk2 HA HK
          go_wp2
          go_roundw
          case rel => exact ⟨n + 1, k, out, by omega, hk, by go_num, rfl, HO, HA2, HK2, hout⟩
          case measure => simp [intOf]; omega
        · have hb1 : ((op : Int) != 1) = true := by simp; omega
          rw [if_neg h1] at ha hk2
          rw [List.drop_drop] at ha
          have HA2 := Lib.hid ha
          have HK2 : Hid (k + m + bsum (l.drop (n + 1)) ≤ lb) := Lib.hid (by omega)
          have hkm : k + m ≤ lb := by omega
          clear ha hk2 HA HK h1 h2
          go_wp2
          go_roundw
          case rel => exact ⟨n + 1, k + m, out, by omega, by omega, by go_num, by go_num, HO, HA2, HK2, by omega⟩
          case measure => simp [intOf]; omega
    · obtain rfl : n = l.length := by omega
      have hfin : adE l sb = out := by rw [HA.out, List.drop_eq_nil_of_le (Nat.le_refl _)]; simp [adE]
      have HF := Lib.hid hfin
      clear hfin HA
      go_wp2
      go_ret
      rw [HF.out]
      exact ⟨_, rfl, HO.out.1, HO.out.2⟩
end Go.Proofs.Ytfgmnfcakeenmaa.Ln
