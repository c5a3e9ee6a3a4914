/- merge3.ended: a side behind a text, its last line ended. -/
import Derived.Test.YtlaneilmffdahaaMgRend
import Derived.Test.YtlaneilmffdahaaMgRow
import Derived.Test.YtlaneilmffdahaaLnJoinStr
import Derived.Lib.AppendStr
namespace Go.Proofs.Ytlaneilmffdahaa.Mg
open Go.RowKit Go.Proofs.Ytlaneilmffdahaa.Ln
set_option linter.unusedVariables false

theorem bv_append (a b : List Int) : bv (a ++ b) = bv a ++ bv b := by simp [bv]
theorem bv_len (l : List Int) : (bv l).length = l.length := by simp [bv]
theorem bv_one' (l : List Int) : ∀ u ∈ bv l, u.oneCell' = true := by
  intro u hu
  obtain ⟨x, _, rfl⟩ := List.mem_map.1 hu
  rfl
theorem infoB : (Try.prog.info? 5).map (fun i => (i.zero, i.size, i.bytes)) = some (some (.int .u8 0), 1, 1) := by kernel_rfl
/-- a constant text behind bytes of one's own -/
theorem run_append_cs (w : World) (ty : TypeId) (B : Nat) (v : Value) (n : Nat) (d : List Int) (hown : w.ownsRow B 5 1 v n (bv d)) (s : ByteArray) (l : List Int) (hl : Lib.strCells s = bv l) (hn : n + l.length ≤ 100000000) (hbase : B ≤ w.heap.size) :
    ∃ A' C' w', (Builtin.append_ #[32, 9] ty #[v, .string s]).run Try.prog w = .ok (.slice A' (n + l.length) C') w' ∧ w'.ownsRow B 5 1 (.slice A' (n + l.length) C') (n + l.length) (bv (d ++ l)) ∧ w.grownBy w' v.ownBlock := by
  obtain ⟨i0, hi, hz0, hz1, hz2⟩ := info_parts infoB
  have hsz : s.size = l.length := by rw [← Lib.strCells_length, hl, bv_len]
  obtain ⟨v', w', hr, h2, h3, h4⟩ := Lib.run_append_own_string (P := Try.prog) w B 32 9 ty 5 i0 Try.underlying32 Try.underlying9 hi hz0 hz1 hz2 v n (bv d) hown s (by unfold maxLen; omega) (by omega) hbase
  obtain ⟨A', N', C', rfl⟩ := own_slice h2
  obtain rfl := own_N h2
  rw [hsz] at hr h2
  rw [hl, ← bv_append] at h2
  exact ⟨A', C', w', hr, h2, h3⟩
theorem wpList_append_cs (w : World) {ops : Array Oper} {rest : List Oper} {o : Oper} {a : Act} {Q : Exit → Act → World → Prop} (hgd : o.guard = none) (s x : Operand)
    (ho : o.op = .call { callee := .builtin .append, args := #[s, x], argTypes := #[32, 9] })
    (B : Nat) (v : Value) (n : Nat) (d : List Int) (hs : a.eval s = v) (hown : w.ownsRow B 5 1 v n (bv d)) (st : ByteArray) (l : List Int) (hx : a.eval x = .string st) (hl : Lib.strCells st = bv l) (hn : n + l.length ≤ 100000000) (hbase : B ≤ w.heap.size)
    (h : ∀ A' C' w', w'.ownsRow B 5 1 (.slice A' (n + l.length) C') (n + l.length) (bv (d ++ l)) → w.grownBy w' v.ownBlock → wpList Try.prog ops Q rest (a.put o.dst (.slice A' (n + l.length) C')) w') :
    wpList Try.prog ops Q (o :: rest) a w := by
  refine wpList_plain hgd fun K hK => ?_
  obtain ⟨A', C', w', hr, h2, h3⟩ := run_append_cs w o.type B v n d hown st l hl hn hbase
  unfold Oper.wp execOp
  simp only [ho, resolve, invoke, builtin, Sem.run_bind, Sem.run_pure, Result.andThen_ok, List.map_toArray, List.map_cons, List.map_nil, hs, hx, hr]
  exact hK _ _ (h A' C' w' h2 h3)
theorem step_append_cs (w : World) {ops : Array Oper} {o : Oper} {a : Act} {K : Act → World → Prop} {Q : Exit → Act → World → Prop} {E : Prop} (hgd : o.guard = none) (s x : Operand)
    (ho : o.op = .call { callee := .builtin .append, args := #[s, x], argTypes := #[32, 9] })
    (B : Nat) (v : Value) (n : Nat) (d : List Int) (hs : a.eval s = v) (hown : w.ownsRow B 5 1 v n (bv d)) (st : ByteArray) (l : List Int) (hx : a.eval x = .string st) (hl : Lib.strCells st = bv l) (hn : n + l.length ≤ 100000000) (hbase : B ≤ w.heap.size)
    (h : ∀ A' C' w', w'.ownsRow B 5 1 (.slice A' (n + l.length) C') (n + l.length) (bv (d ++ l)) → w.grownBy w' v.ownBlock → K (a.put o.dst (.slice A' (n + l.length) C')) w') :
    if Region.wanted o (yielded ops a.tmps) = true then Oper.wp Try.prog o a w K Q else E := by
  have hw : Region.wanted o (yielded ops a.tmps) = true := by simp [Region.wanted, hgd]
  rw [if_pos hw]
  obtain ⟨A', C', w', hr, h2, h3⟩ := run_append_cs w o.type B v n d hown st l hl hn hbase
  unfold Oper.wp execOp
  simp only [ho, resolve, invoke, builtin, Sem.run_bind, Sem.run_pure, Result.andThen_ok, List.map_toArray, List.map_cons, List.map_nil, hs, hx, hr]
  exact h A' C' w' h2 h3

/-- bytes of one's own that have grown -/
def EndRet (B : Nat) (d : List Int) (w : World) (e : Ending) (w' : World) : Prop :=
  ∃ A C, e = .returned (.slice A d.length C) ∧ w'.ownsRow B 5 1 (.slice A d.length C) d.length (bv d) ∧ Below B w w' ∧ Kp [5] w w'
/-- bytes of one's own, new -/
def BsRet (d : List Int) (w : World) (e : Ending) (w' : World) : Prop :=
  ∃ A C, e = .returned (.slice A d.length C) ∧ w'.ownsRow w.heap.size 5 1 (.slice A d.length C) d.length (bv d) ∧ Below w.heap.size w w'
theorem join_bs (A : Option Addr) (n C : Nat) (ss : List ByteArray) (w : World) (h : Rd w w.heap.size A n C (sv ss)) (hs : (ints ss).length ≤ 100000000) :
    Calls Try.prog 37 #[.slice A n C] w (BsRet (ints ss) w) :=
  (join_any A n C ss w h (by rw [sz_ints]; omega)).mono fun e w' hr => by
    obtain ⟨A', C', he, ho, hb⟩ := hr.outOf
    rw [sz_ints] at he ho
    exact ⟨A', C', he, ho, hb⟩
theorem own_bytes {w : World} {B : Nat} {A : Option Addr} {C : Nat} {d : List Int} (h : w.ownsRow B 5 1 (.slice A d.length C) d.length (bv d)) (i : Nat) (hi : i < d.length) : ∃ g, A = some ⟨g, 0, none⟩ ∧ w.cell? ⟨g, i, none⟩ = some (.int .u8 (d.getD i 0)) := by
  have h0 := h
  rcases h.2 with ⟨hv, hn⟩ | ⟨g, cap, cur, hv, -⟩
  · omega
  · simp only [Value.slice.injEq] at hv
    obtain ⟨rfl, -, -⟩ := hv
    refine ⟨g, rfl, ?_⟩
    rw [h0.cellAt i (by omega)]
    simp [bv, hi]
theorem own_cap {w : World} {B e sz : Nat} {A : Option Addr} {N C n : Nat} {xs : List Value} (h : w.ownsRow B e sz (.slice A N C) n xs) : n ≤ C ∧ C ≤ 9223372036854775807 := by
  rcases h.2 with ⟨hv, hn⟩ | ⟨g, cap, cur, hv, -, -, h1, h2, -⟩
  · simp only [Value.slice.injEq] at hv
    omega
  · simp only [Value.slice.injEq] at hv
    obtain ⟨-, -, rfl⟩ := hv
    exact ⟨h1, by unfold maxLen at h2; omega⟩
theorem ints_byte (ss : List ByteArray) : ∀ x ∈ ints ss, 0 ≤ x ∧ x ≤ 255 := by
  intro x hx
  obtain ⟨s, -, hx⟩ := List.mem_flatMap.1 hx
  obtain ⟨b, -, rfl⟩ := List.mem_map.1 hx
  have := b.toNat_lt
  omega

set_option maxRecDepth 100000 in
set_option maxHeartbeats 2000000 in
theorem ended_any (B : Nat) (A : Option Addr) (C : Nat) (d : List Int) (As : Option Addr) (m Cs : Nat) (ss : List ByteArray) (w : World) (h : w.ownsRow B 5 1 (.slice A d.length C) d.length (bv d)) (hB : B ≤ w.heap.size) (hs : Rd w w.heap.size As m Cs (sv ss))
    (hd : d.length ≤ 10000000) (hz : (ints ss).length ≤ 10000000) :
    Calls Try.prog 38 #[.slice A d.length C, .slice As m Cs] w (EndRet B (d ++ endd ss) w) := by
  have HJ := Lib.hid (join_bs As m Cs ss w hs (by omega))
  have H := Lib.hid h
  have HE := Lib.hid (show endd ss = if ints ss = [] ∨ (ints ss).getLast? = some 10 then ints ss else ints ss ++ [10] from rfl)
  have HBy := Lib.hid (ints_byte ss)
  clear h hs
  generalize ints ss = z at *
  have hin : z.length ≤ 10000000 := hz
  go_enter Try.func38, Try.ntmps38
  go_wp2_with fail
  refine HJ.out.mono ?_
  rintro e w1 ⟨A1, C1, rfl, ho1, hb1⟩
  have HO1 := Lib.hid ho1
  have HO := Lib.hid (own_keep H.out hb1)
  have HR := Lib.hid (Rd.of_own ho1 (by omega)).1
  have hB1 : B ≤ w1.heap.size := Nat.le_trans hB hb1.size
  have HB1 := Lib.hid (hb1.mono hB)
  have HK1 := Lib.hid (kp_of_below (ts := [5]) hb1)
  obtain ⟨q1, q2⟩ := own_cap ho1
  have hap : Apart (.slice A1 z.length C1) (.slice A d.length C) := fun k h1 h2 => by
    have := ho1.lt k h1
    have := H.out.lt k h2
    omega
  have HAp := Lib.hid hap
  clear ho1 hb1 HJ H hap
  go_wp2_with (at_builtin; refine wpList_append_rd elB _ rfl _ _ rfl B _ d.length (bv d) rfl HO.out _ A1 z.length C1 (bv z) rfl HR.out (bv_one' z) (d.length + z.length) rfl (by omega) hB1 ?_)
  intro A2 C2 w2 ho2 hg2 _
  rw [← bv_append] at ho2
  have hb2 := below_grown hB1 HO.out hg2
  have hk2 := (Kp.refl [5] w1).grown HO.out hg2 (by simp)
  have HO2 := Lib.hid ho2
  have HS2 := Lib.hid (own_grown HO1.out hg2 HAp.out)
  have HB2 := Lib.hid (HB1.out.trans hb2)
  have HK2 := Lib.hid (HK1.out.trans hk2)
  have hB2 : B ≤ w2.heap.size := Nat.le_trans hB1 hg2.size
  clear ho2 hg2 hb2 hk2 HO HO1 HR HAp HB1 HK1
  rcases List.eq_nil_or_concat z with rfl | ⟨p, x, rfl⟩
  · have HE2 : Hid (d ++ endd ss = d) := Lib.hid (by rw [HE.out, if_pos (.inl rfl), List.append_nil])
    have HO3 := HO2.out
    rw [List.append_nil] at HO3
    have HO4 := Lib.hid HO3
    clear HO3 HE HS2 HO2
    go_wp2
    go_ret
    rw [HE2.out]
    exact ⟨A2, C2, rfl, HO4.out, HB2.out, HK2.out⟩
  · rw [List.concat_eq_append] at *
    obtain ⟨g, rfl, hc⟩ := own_bytes HS2.out p.length (by simp)
    obtain ⟨x0, x1⟩ := HBy.out x (by simp)
    have e1 : (p ++ [x]).getD p.length 0 = x := by simp
    rw [e1] at hc
    have hlen : (p ++ [x]).length = p.length + 1 := by simp
    rw [hlen] at q1 hin
    by_cases hx : x = 10
    · have HE2 : Hid (d ++ endd ss = d ++ (p ++ [x])) := Lib.hid (by rw [HE.out, if_pos (.inr (by simp [hx]))])
      have hx' : (x != 10) = false := by simp [hx]
      have HX := Lib.hid hx
      rw [hlen] at HO2
      clear HE HS2 hx e1
      rw [hlen]
      clear hlen
      go_wp2
      go_ret
      rw [HE2.out]
      refine ⟨A2, C2, ?_, ?_, HB2.out, HK2.out⟩
      · simp only [List.length_append, List.length_cons, List.length_nil]; rfl
      · simp only [List.length_append, List.length_cons, List.length_nil]; exact HO2.out
    · have HE2 : Hid (d ++ endd ss = d ++ (p ++ [x]) ++ [10]) := Lib.hid (by rw [HE.out, if_neg (by simp [hx]), ← List.append_assoc])
      have hx' : (x != 10) = true := by simp [hx]
      have HO3 := Lib.hid (own_keep HO2.out ((Below.refl w2.heap.size w2).alloc (Nat.le_refl _) (.cells #[.int .u8 10] 5)))
      rw [hlen] at HO2 HO3
      clear HE HS2 hx e1
      rw [hlen]
      clear hlen
      go_wp2_with (at_builtin; refine wpList_append_rd elB _ rfl _ _ rfl B _ (d.length + (p.length + 1)) (bv (d ++ (p ++ [x]))) rfl HO3.out _ (some ⟨w2.heap.size, 0, none⟩) 1 1 [.int .u8 10] rfl (rd_new _ _ _) (by intro u hu; rw [List.mem_singleton.1 hu]; rfl) (d.length + (p.length + 1) + 1) rfl (by omega) (by simp; omega) ?_)
      intro A4 C4 w4 ho4 hg4 _
      have hb4 := ((Below.refl B w2).alloc hB2 (.cells #[.int .u8 10] 5)).trans (below_grown (by simp; omega) HO3.out hg4)
      have hk4 := ((Kp.refl [5] w2).alloc (.cells #[.int .u8 10] 5)).grown HO3.out hg4 (by simp)
      have e4 : bv (d ++ (p ++ [x])) ++ [Value.int .u8 10] = bv (d ++ (p ++ [x]) ++ [10]) := by rw [bv_append _ [10]]; rfl
      rw [e4] at ho4
      have HO4 := Lib.hid ho4
      have HB4 := Lib.hid (HB2.out.trans hb4)
      have HK4 := Lib.hid (HK2.out.trans hk4)
      clear ho4 hg4 hb4 hk4 e4 HO2 HO3
      go_wp2
      go_ret
      rw [HE2.out]
      refine ⟨A4, C4, ?_, ?_, HB4.out, HK4.out⟩
      · simp only [List.length_append, List.length_cons, List.length_nil]; rfl
      · simp only [List.length_append, List.length_cons, List.length_nil]; exact HO4.out
end Go.Proofs.Ytlaneilmffdahaa.Mg
