/- Texts of one's own, merged: CdTxF, CdTxK, CdWithin, CdSqM, CdSdU, CdSdV, CdSha, CdBw, CdSqW. -/
import Derived.Test.YtmcmapgllaopmaaMf

section
namespace Go.Proofs.Ytmcmapgllaopmaa.Cd
open Go.RowKit
set_option linter.unusedVariables false
/-- not too much -/
structure TxS.Fw (t : TxS) : Prop where
  n : t.n < 100
  m : t.m < 100
  s : t.hd.size + t.br.size + 33 * t.nt < 80000
  ms : ∀ x ∈ t.ms, x.nm.size + x.wy.size < 80000
  ys : ∀ y ∈ t.ys, y.n < 80000
theorem list_choose {α : Type} {f : α → List Value} {P : α → Prop} : ∀ cs : List (List Value), (∀ c ∈ cs, ∃ y, c = f y ∧ P y) → ∃ ys : List α, cs = ys.map f ∧ ∀ y ∈ ys, P y
  | [], _ => ⟨[], rfl, fun y hy => absurd hy (by simp)⟩
  | c :: cs, h => by
    obtain ⟨y, e, hy⟩ := h c (List.mem_cons_self ..)
    obtain ⟨ys, e2, hys⟩ := list_choose cs (fun d hd => h d (List.mem_cons_of_mem _ hd))
    exact ⟨y :: ys, by rw [e, e2]; rfl, fun z hz => by
      rcases List.mem_cons.1 hz with rfl | hz
      · exact hy
      · exact hys z hz⟩
theorem RdS.of_st {good : List Value → Prop} {sz b : Nat} {w : World} {a : Option Addr} {n c : Nat} {cs : List (List Value)} (h : Fr.IsSt good sz b w a n c cs) (hs : 0 < sz) (hb : 0 < b) : RdS w.heap.size sz w a n c cs ∧ (∀ x ∈ cs, x.length = sz ∧ good x) ∧ n * b ≤ 140737488351232 := by
  rcases h with ⟨rfl, rfl, rfl, rfl⟩ | ⟨x, rfl, hl, hc, hlen, hcell, hwf⟩
  · exact ⟨RdS.nil _ _ _, fun x hx => absurd hx (by simp), by omega⟩
  · have hcb : c ≤ c * b := Nat.le_mul_of_pos_right _ hb
    have hnb : n * b ≤ c * b := Nat.mul_le_mul_right _ hl
    refine ⟨⟨hlen, hl, by omega, fun c hc => (hwf c hc).1, fun h0 => ?_⟩, hwf, by omega⟩
    have h32 : (cs.getD 0 []).length = sz := (hwf _ (getD_memL (by omega))).1
    have hc0 := hcell 0 h0 0 ((cs.getD 0 [])[0]'(by omega)) (List.getElem?_eq_getElem (by omega))
    obtain ⟨bb, off, spot⟩ := x
    have hspot : spot = Option.none := by simpa [Addr.add] using World.cell?_spot hc0
    subst hspot
    refine ⟨bb, off, rfl, by simpa [Addr.add] using block_lt_of_cell hc0, fun i hi j v hj => ?_⟩
    have := hcell i hi j v hj
    rw [Addr.add_mid, Addr.add_mid] at this
    exact this
theorem idOk_of {q : List Int} (h : Fr.IsId q) : IdOk q := ⟨h.1, fun i hi => by
  have h2 := h.1
  have h3 := h.2 (q.getD i 0) (by rw [List.getD_eq_getElem?_getD, List.getElem?_eq_getElem (by omega)]; exact List.getElem_mem _)
  exact h3⟩
end Go.Proofs.Ytmcmapgllaopmaa.Cd
end

section
namespace Go.Proofs.Ytmcmapgllaopmaa.Cd
open Go.RowKit
set_option linter.unusedVariables false
theorem RdS.up {G G' sz : Nat} {w : World} {A : Option Addr} {n C : Nat} {cs : List (List Value)} (h : RdS G sz w A n C cs) (hG : G ≤ G') : RdS G' sz w A n C cs :=
  ⟨h.len, h.cap, h.max, h.size, fun h0 => by
    obtain ⟨g, o, h1, h2, h3⟩ := h.cell h0
    exact ⟨g, o, h1, Nat.lt_of_lt_of_le h2 hG, h3⟩⟩
theorem TxS.Rd.up {t : TxS} {G G' : Nat} {w : World} (h : t.Rd G w) (hG : G ≤ G') : t.Rd G' w :=
  ⟨h.ho, h.hc, ⟨h.hM.rd.up hG, h.hM.ok⟩, h.hMi, ⟨h.hT.rd.up hG, h.hT.ok⟩, h.hTi, ⟨h.hY.rd.up hG, fun y hy => ⟨(h.hY.ok y hy).1, (h.hY.ok y hy).2.1, ⟨(h.hY.ok y hy).2.2.rd, fun x hx h0 => Nat.lt_of_lt_of_le ((h.hY.ok y hy).2.2.lt x hx h0) hG⟩⟩⟩, h.hYi, h.hn, h.hm, h.hnt, h.hhd, h.hbr⟩
/-- all that is read lies in this world -/
def TxS.Now (t : TxS) (w : World) : Prop := t.Rd w.heap.size w
theorem TxS.Now.next {t : TxS} {w w' : World} (h : t.Now w) (hb : Below w.heap.size w w') : t.Now w' := (TxS.Rd.below h hb (Nat.le_refl _)).up hb.size
theorem TxS.Now.len {t : TxS} {w : World} (h : t.Now w) : t.V.length = 75 := TxS.V_len h.ho.1 h.hc.1
/-- a transaction's bytes, none if it may not be -/
def txBb (t : TxD) : List Int := if txE t = 0 then txB t else []
theorem TxRet.flat {t : TxD} {w w' : World} {e : Ending} (h : TxRet t w e w') : Below w.heap.size w w' ∧ ∃ A n C, e = .returned (.tuple #[.slice A n C, .int .i64 (txE t)]) ∧ w'.ownsRow w.heap.size 5 1 (.slice A n C) n (bv (txBb t)) := by
  obtain ⟨hb, ⟨h0, rfl⟩ | ⟨h0, A, C, rfl, ho⟩⟩ := h
  · exact ⟨hb, none, 0, 0, rfl, by rw [txBb, if_neg h0]; exact own_none' w' _⟩
  · exact ⟨hb, A, (txB t).length, C, by rw [h0], by rw [txBb, if_pos h0]; exact ho⟩
/-- a transaction laid in a block of its own -/
theorem tx_lay (w : World) (D : List Value) (hl : D.length = 75) (h1 : ∀ v ∈ D, v.oneCell' = true) (Z : Array Value) (hZ : Z.size = 75) :
    Fin w w.heap.size (w.alloc (.cells Z 68)) w.heap.size 68 D ∧ ((w.alloc (.cells Z 68)).setCells w.heap.size 0 D).rangeAt w.heap.size 0 D := lay_new w 68 75 Z D infoTx hZ hl h1
end Go.Proofs.Ytmcmapgllaopmaa.Cd
end

section
namespace Go.Proofs.Ytmcmapgllaopmaa.Wi
open Go.RowKit
set_option linter.unusedVariables false
theorem ret_int {k : IntKind} {a b : Int} (h : a = b) : Ending.returned (.int k a) = .returned (.int k b) := by rw [h]
theorem mod_pos (a n : Int) (hn : 0 < n) (h : 0 ≤ a.tmod n) : a.tmod n = a % n := by
  have h1 := Int.tmod_add_mul_tdiv a n
  have h2 := Int.tmod_lt_of_pos a hn
  have : a % n = (a.tmod n + n * a.tdiv n) % n := by rw [h1]
  rw [this, Int.add_mul_emod_self_left, Int.emod_eq_of_lt h h2]
theorem mod_neg (a n : Int) (hn : 0 < n) (h : a.tmod n < 0) : a.tmod n + n = a % n := by
  have h1 := Int.tmod_add_mul_tdiv a n
  have h2 := Int.lt_tmod_of_pos a hn
  have : a % n = (a.tmod n + n + n * (a.tdiv n - 1)) % n := by
    congr 1
    rw [Int.mul_sub]
    omega
  rw [this, Int.add_mul_emod_self_left, Int.emod_eq_of_lt (by omega) (by omega)]
theorem wf_bounds {a : Int} (h : (Lit.int .i64 a).wf = true) : -9223372036854775808 ≤ a ∧ a ≤ 9223372036854775807 := by
  have h1 : IntKind.i64.min = -9223372036854775808 := rfl
  have h2 : IntKind.i64.max = 9223372036854775807 := rfl
  simp only [Lit.wf, Bool.and_eq_true, decide_eq_true_eq] at h
  omega
set_option maxHeartbeats 1000000 in
theorem within_any (a n : Int) (w : World) (h0 : 0 < n) (hn : n ≤ 1000000000) (ha : -9223372036854775808 ≤ a) (hb : a ≤ 9223372036854775807) :
    Calls Try.prog 39 #[.int .i64 a, .int .i64 n] w fun e w' => e = .returned (.int .i64 (a % n)) ∧ w = w' := by
  have g1 := Int.tmod_lt_of_pos a h0
  have g2 := Int.lt_tmod_of_pos a h0
  have hz : (n == 0) = false := by simp; omega
  by_cases h : a.tmod n < 0
  · have HM := Lib.hid (mod_neg a n h0 h)
    go_enter Try.func39, Try.ntmps39
    go_wp2
    go_ret
    exact ⟨ret_int HM.out, rfl⟩
  · have HM := Lib.hid (mod_pos a n h0 (by omega))
    go_enter Try.func39, Try.ntmps39
    go_wp2
    go_ret
    exact ⟨ret_int HM.out, rfl⟩
end Go.Proofs.Ytmcmapgllaopmaa.Wi
end

section
namespace Go.Proofs.Ytmcmapgllaopmaa.Cd
open Go.RowKit
set_option linter.unusedVariables false
theorem Td.wf_of {w : World} {c : List Value} (h : Fr.GSeq w c) : ∃ (k : Int) (br : ByteArray) (og cu : List Int) (At : Option Addr) (nt Ct : Nat) (ts : List Td) (dn md : Int) (st : Bool),
    c = sqV k br og cu (.slice At nt Ct) dn md st ∧ br.size ≤ 140737488351232 ∧ IdOk og ∧ IdOk cu ∧ RdT w.heap.size w At nt Ct ts ∧ (∀ x ∈ ts, IdOk x.id ∧ -9223372036854775808 ≤ x.dd ∧ x.dd ≤ 9223372036854775807) ∧ nt ≤ 5000000000000 ∧ (-9223372036854775808 ≤ k ∧ k ≤ 9223372036854775807) ∧ (-9223372036854775808 ≤ dn ∧ dn ≤ 9223372036854775807) ∧ (-9223372036854775808 ≤ md ∧ md ≤ 9223372036854775807) := by
  obtain ⟨k, br, og, cu, At, nt, Ct, y4, dn, md, st, rfl, hk, hbr, hog, hcu, hst, hdn, hmd⟩ := h
  obtain ⟨h1, h2, h3⟩ := RdS.of_st hst (by decide) (by decide)
  obtain ⟨ts, rfl, hts⟩ := list_choose (f := Td.cells) (P := fun t => IdOk t.id ∧ -9223372036854775808 ≤ t.dd ∧ t.dd ≤ 9223372036854775807) y4 (fun c hc => by
    obtain ⟨-, k0, q1, rfl, hw, hq⟩ := h2 c hc
    exact ⟨⟨k0, q1⟩, rfl, idOk_of hq, Wi.wf_bounds hw⟩)
  exact ⟨k, br, og, cu, At, nt, Ct, ts, dn, md, st, rfl, hbr, idOk_of hog, idOk_of hcu, ⟨h1, fun t ht => (hts t ht).1.1⟩, hts, by omega, Wi.wf_bounds hk, Wi.wf_bounds hdn, Wi.wf_bounds hmd⟩
theorem str_same {s t : ByteArray} : (s.toList == t.toList) = true ↔ s = t := by
  constructor
  · intro h
    have e : s.toList = t.toList := by simpa using h
    exact Go.WideShapes.bytes_inj (by rw [← ByteArray.toList_eq s, ← ByteArray.toList_eq t]; exact e)
  · rintro rfl
    simp
/-- a step as it is made: what to do within 0 to 255 -/
def wT (t : Td) : Td := ⟨t.dd % 256, t.id⟩
/-- a transaction with a sequence alone -/
def sQT (k : Int) (br : ByteArray) (og cu : List Int) (At : Option Addr) (nt Ct : Nat) (ts : List Td) (dn md : Int) (st : Bool) (A : Option Addr) (C : Nat) (Am : Option Addr) (Cm : Nat) : TxS :=
  ⟨false, ByteArray.empty, A, 0, C, [], true, k, br, og, cu, At, nt, Ct, ts, dn, md, st, Am, 0, Cm, []⟩
section
variable {k : Int} {br : ByteArray} {og cu : List Int} {At : Option Addr} {nt Ct : Nat} {ts : List Td} {dn md : Int} {st : Bool} {A : Option Addr} {C : Nat} {Am : Option Addr} {Cm : Nat}
theorem sQT_V : (sQT k br og cu At nt Ct ts dn md st A C Am Cm).V = txV false ByteArray.empty (.slice A 0 C) true (sqV k br og cu (.slice At nt Ct) dn md st) (.slice Am 0 Cm) := rfl
theorem sQT_rd {G : Nat} {w : World} (ho : IdOk og) (hc : IdOk cu) (hC : C ≤ 9223372036854775807) (hCm : Cm ≤ 9223372036854775807) (hT : RdT G w At nt Ct ts) (hTi : ∀ x ∈ ts, IdOk x.id) (hn : nt ≤ 1000000000) (hb : br.size ≤ 1000000000) : (sQT k br og cu At nt Ct ts dn md st A C Am Cm).Rd G w :=
  ⟨ho, hc, ⟨⟨rfl, Nat.zero_le _, hC, fun c hc => absurd hc (by simp [sQT]), fun h0 => absurd h0 (by simp [sQT])⟩, fun m hm => absurd hm (by simp [sQT])⟩, fun x hx => absurd hx (by simp [sQT]), hT, hTi,
    ⟨⟨rfl, Nat.zero_le _, hCm, fun c hc => absurd hc (by simp [sQT]), fun h0 => absurd h0 (by simp [sQT])⟩, fun m hm => absurd hm (by simp [sQT])⟩, fun y hy => absurd hy (by simp [sQT]), by simp [sQT], by simp [sQT], hn, by simp [sQT], hb⟩
theorem sQT_ok (hk : 1 ≤ k ∧ k ≤ 255) (hb : br.size ≤ 255) (hd : 0 ≤ dn ∧ dn ≤ 65535) (hm : 0 ≤ md ∧ md ≤ 65535) (hn : ts.length ≤ 65535) (ht : ∀ x ∈ ts, 0 ≤ x.dd ∧ x.dd ≤ 255) : txE (sQT k br og cu At nt Ct ts dn md st A C Am Cm).D = 0 := by
  have e : (sQT k br og cu At nt Ct ts dn md st A C Am Cm).D.sq.ask true = ⟨k, br, og, cu, ts, dn, md, st⟩ := by
    unfold SqD.ask
    rw [if_pos ⟨rfl, by show k ≠ 0; omega⟩]
    rfl
  have e2 : (sQT k br og cu At nt Ct ts dn md st A C Am Cm).D.sq.ask (sQT k br og cu At nt Ct ts dn md st A C Am Cm).D.hs = ⟨k, br, og, cu, ts, dn, md, st⟩ := e
  have h1 : tdB ts = true := by
    unfold tdB
    rw [List.all_eq_true]
    intro x hx
    have := ht x hx
    simp [fitB, this]
  have h2 : nfB ts k dn md = true := by
    unfold nfB fitB
    rw [h1]
    simp
    omega
  unfold txE
  rw [e2, if_neg (by show ¬ (65535 < ([] : List Mv).length ∨ 65535 < ([] : List My).length ∨ 65535 < ts.length); simp; omega), if_neg (by
    show ¬ lgB [] ByteArray.empty br = true
    simp [lgB]
    omega), if_neg (by show ¬ nfB ts k dn md = false; rw [h2]; decide)]
theorem sQT_eq {k' : Int} {br' : ByteArray} {og' cu' : List Int} {At' : Option Addr} {nt' Ct' : Nat} {ts' : List Td} {dn' md' : Int} {st' : Bool} {A' : Option Addr} {C' : Nat} {Am' : Option Addr} {Cm' : Nat} (hk : k ≠ 0) (hk' : k' ≠ 0) :
    sxEq (sQT k br og cu At nt Ct ts dn md st A C Am Cm).D (sQT k' br' og' cu' At' nt' Ct' ts' dn' md' st' A' C' Am' Cm').D = sqEq ⟨k, br, og, cu, ts, dn, md, st⟩ ⟨k', br', og', cu', ts', dn', md', st'⟩ := by
  have e : (sQT k br og cu At nt Ct ts dn md st A C Am Cm).D.sq.ask true = ⟨k, br, og, cu, ts, dn, md, st⟩ := by
    unfold SqD.ask
    rw [if_pos ⟨rfl, hk⟩]
    rfl
  have e' : (sQT k' br' og' cu' At' nt' Ct' ts' dn' md' st' A' C' Am' Cm').D.sq.ask true = ⟨k', br', og', cu', ts', dn', md', st'⟩ := by
    unfold SqD.ask
    rw [if_pos ⟨rfl, hk'⟩]
    rfl
  have f : (sQT k br og cu At nt Ct ts dn md st A C Am Cm).D.hs = true := rfl
  have f' : (sQT k' br' og' cu' At' nt' Ct' ts' dn' md' st' A' C' Am' Cm').D.hs = true := rfl
  have z : ∀ (a b : TxD), a.hh = b.hh → a.hd = b.hd → a.hs = b.hs → eqL mvEq a.ms b.ms = true → eqL myEq a.ys b.ys = true → sxEq a b = sqEq (a.sq.ask a.hs) (b.sq.ask b.hs) := by
    intro a b h1 h2 h3 h4 h5
    unfold sxEq
    rw [h1, h2, h3, h4, h5]
    simp [sEq]
  have y := z (sQT k br og cu At nt Ct ts dn md st A C Am Cm).D (sQT k' br' og' cu' At' nt' Ct' ts' dn' md' st' A' C' Am' Cm').D rfl rfl rfl rfl rfl
  rw [f, f', e, e'] at y
  exact y
/-- each change is seen -/
theorem ne_dn {dn' : Int} (h : dn' ≠ dn) : sqEq ⟨k, br, og, cu, ts, dn, md, st⟩ ⟨k, br, og, cu, ts, dn', md, st⟩ = false := by
  have : (dn == dn') = false := by simpa using Ne.symm h
  simp [sqEq, this]
theorem ne_st : sqEq ⟨k, br, og, cu, ts, dn, md, st⟩ ⟨k, br, og, cu, ts, dn, md, !st⟩ = false := by
  cases st <;> simp [sqEq]
theorem ne_og {og' : List Int} (h : og ≠ og') : sqEq ⟨k, br, og, cu, ts, dn, md, st⟩ ⟨k, br, og', cu, ts, dn, md, st⟩ = false := by
  simp [sqEq, h]
theorem ne_br {br' : ByteArray} (h : br.size ≠ br'.size) : sqEq ⟨k, br, og, cu, ts, dn, md, st⟩ ⟨k, br', og, cu, ts, dn, md, st⟩ = false := by
  have h1 : (br.toList == br'.toList) = false := by
    cases hc : br.toList == br'.toList with
    | false => rfl
    | true => exact absurd (by rw [str_same.1 hc]) h
  simp [sqEq, sEq, h1]
theorem ne_ts {ts' : List Td} (h : ts.length ≠ ts'.length) : sqEq ⟨k, br, og, cu, ts, dn, md, st⟩ ⟨k, br, og, cu, ts', dn, md, st⟩ = false := by
  have h2 := eqL_len (f := tdEq) h
  simp [sqEq, h2]
end
theorem xor1_ne (a : Int) (h0 : 0 ≤ a) (h1 : a ≤ 65535) : bits .xor .i64 a 1 ≠ a := by
  obtain ⟨n, rfl⟩ : ∃ n : Nat, a = n := ⟨a.toNat, by omega⟩
  intro e
  have h2 : (BitVec.ofInt 64 (n : Int) ^^^ BitVec.ofInt 64 1).toNat = n ^^^ 1 := by
    rw [BitVec.toNat_xor]
    congr 1
    simp
    omega
  have h3 : n ^^^ 1 < 2 ^ 16 := Nat.xor_lt_two_pow (by omega) (by decide)
  have h4 : bits .xor .i64 (n : Int) 1 = ((n ^^^ 1 : Nat) : Int) := by
    show IntKind.i64.wrap (((BitVec.ofInt 64 (n : Int) ^^^ BitVec.ofInt 64 1).toNat : Nat) : Int) = _
    rw [h2, IntWalk.i64_in _ (by omega)]
  rw [h4] at e
  have h5 : n ^^^ 1 = n := by omega
  have h6 : (n ^^^ 1).testBit 0 = n.testBit 0 := by rw [h5]
  rw [Nat.testBit_xor, show (1 : Nat).testBit 0 = true from rfl] at h6
  cases hb : n.testBit 0 <;> rw [hb] at h6 <;> exact absurd h6 (by decide)
/-- one more -/
theorem u8_next (a : Int) (h0 : 0 ≤ a) (h1 : a ≤ 255) : IntKind.u8.wrap (a + 1) ≠ a ∧ 0 ≤ IntKind.u8.wrap (a + 1) ∧ IntKind.u8.wrap (a + 1) ≤ 255 := by
  by_cases e : a = 255
  · subst e; decide
  · rw [IntWalk.u8_in _ (by omega)]; omega
theorem id_set {l : List Int} (h : IdOk l) (v : Int) (h0 : 0 ≤ v) (h1 : v ≤ 255) : IdOk (l.set 31 v) :=
  ⟨by rw [List.length_set]; exact h.1, fun i hi => by
    by_cases e : i = 31
    · subst e
      have := h.1
      simp [List.getD, show 31 < l.length by omega]
      omega
    · have : (l.set 31 v).getD i 0 = l.getD i 0 := by simp [List.getD, List.getElem?_set_ne (Ne.symm e)]
      rw [this]; exact h.2 i hi⟩
theorem id_set_ne {l : List Int} (h : IdOk l) (v : Int) (hv : v ≠ l.getD 31 0) : l ≠ l.set 31 v := fun e => by
  have h1 : (l.set 31 v).getD 31 0 = v := by
    have := h.1
    simp [List.getD, show 31 < l.length by omega]
  rw [← e] at h1
  exact hv h1.symm
theorem sqV_set0 {k : Int} {br : ByteArray} {og cu : List Int} {td : Value} {dn md : Int} {st : Bool} (x : Int) : (sqV k br og cu td dn md st).set 0 (.int .i64 x) = sqV x br og cu td dn md st := rfl
theorem sqV_set33 {k : Int} {br : ByteArray} {og cu : List Int} {td : Value} {dn md : Int} {st : Bool} (ho : og.length = 32) (x : Int) : (sqV k br og cu td dn md st).set 33 (.int .u8 x) = sqV k br (og.set 31 x) cu td dn md st := by
  have hb : (bv og).length = 32 := by rw [bv_len, ho]
  have e : (bv og).set 31 (.int .u8 x) = bv (og.set 31 x) := by
    show (og.map (Value.int .u8)).set 31 _ = (og.set 31 x).map _
    rw [List.map_set]
  show Value.int .i64 k :: Value.string br :: ((bv og ++ (bv cu ++ [td, .int .i64 dn, .int .i64 md, .bool st])).set 31 (.int .u8 x)) = _
  rw [List.set_append_left _ _ (by omega), e]
  rfl
theorem txV_sq {hh : Bool} {hd : ByteArray} {mv : Value} {hs : Bool} {sq : List Value} {mm : Value} (hq : sq.length = 70) (i : Nat) (hi : i < 70) (v : Value) : (txV hh hd mv hs sq mm).set (4 + i) v = txV hh hd mv hs (sq.set i v) mm := by
  rw [show 4 + i = i + 1 + 1 + 1 + 1 by omega]
  unfold txV
  rw [List.set_cons_succ, List.set_cons_succ, List.set_cons_succ, List.set_cons_succ, List.set_append_left _ _ (by omega)]
theorem built_td2 (k : Int) : ∀ (key : List Int), key.length = 32 → Try.prog.built 84 [(0, .int .i64 k), (1, .agg (bv key).toArray)] = some (Td.cells ⟨k, key⟩).toArray
  | [a0, a1, a2, a3, a4, a5, a6, a7, a8, a9, a10, a11, a12, a13, a14, a15, a16, a17, a18, a19, a20, a21, a22, a23, a24, a25, a26, a27, a28, a29, a30, a31], _ => by kernel_rfl
set_option maxRecDepth 100000 in
theorem built_tx1 (k : Int) (br : ByteArray) (td : Value) (dn md : Int) (st : Bool) (a0 a1 a2 a3 a4 a5 a6 a7 a8 a9 a10 a11 a12 a13 a14 a15 a16 a17 a18 a19 a20 a21 a22 a23 a24 a25 a26 a27 a28 a29 a30 a31 : Int) : ∀ (cu : List Int), cu.length = 32 → Try.prog.built 68 [(3, .bool true), (4, .agg (sqV k br [a0, a1, a2, a3, a4, a5, a6, a7, a8, a9, a10, a11, a12, a13, a14, a15, a16, a17, a18, a19, a20, a21, a22, a23, a24, a25, a26, a27, a28, a29, a30, a31] cu td dn md st).toArray)] = some (txV false ByteArray.empty (.slice none 0 0) true (sqV k br [a0, a1, a2, a3, a4, a5, a6, a7, a8, a9, a10, a11, a12, a13, a14, a15, a16, a17, a18, a19, a20, a21, a22, a23, a24, a25, a26, a27, a28, a29, a30, a31] cu td dn md st) (.slice none 0 0)).toArray
  | [b0, b1, b2, b3, b4, b5, b6, b7, b8, b9, b10, b11, b12, b13, b14, b15, b16, b17, b18, b19, b20, b21, b22, b23, b24, b25, b26, b27, b28, b29, b30, b31], _ => by kernel_rfl
theorem built_tx (k : Int) (br : ByteArray) (td : Value) (dn md : Int) (st : Bool) (cu : List Int) (hc : cu.length = 32) : ∀ (og : List Int), og.length = 32 → Try.prog.built 68 [(3, .bool true), (4, .agg (sqV k br og cu td dn md st).toArray)] = some (txV false ByteArray.empty (.slice none 0 0) true (sqV k br og cu td dn md st) (.slice none 0 0)).toArray
  | [a0, a1, a2, a3, a4, a5, a6, a7, a8, a9, a10, a11, a12, a13, a14, a15, a16, a17, a18, a19, a20, a21, a22, a23, a24, a25, a26, a27, a28, a29, a30, a31], _ => built_tx1 k br td dn md st a0 a1 a2 a3 a4 a5 a6 a7 a8 a9 a10 a11 a12 a13 a14 a15 a16 a17 a18 a19 a20 a21 a22 a23 a24 a25 a26 a27 a28 a29 a30 a31 cu hc
end Go.Proofs.Ytmcmapgllaopmaa.Cd
end

section
namespace Go.Proofs.Ytmcmapgllaopmaa.Cd
open Go.RowKit
set_option linter.unusedVariables false
section
variable {l : List Int} {L : Nat}
theorem Sd.mv {a b : Nat} {x : List Int} (h : Sd l a x) (e : b = a) : Sd l b x := e ▸ h
variable (hL : l.length = L) (hb : ∀ i, i < L → 0 ≤ l.getD i 0 ∧ l.getD i 0 ≤ 255)
include hL hb
end
end Go.Proofs.Ytmcmapgllaopmaa.Cd
end

section
namespace Go.Proofs.Ytmcmapgllaopmaa.Cd
open Go.RowKit
set_option linter.unusedVariables false
section
variable {l : List Int} {L : Nat}
theorem NmOk.size {s : ByteArray} (h : NmOk s) : s.size ≤ 40 := by have := h.2.1; omega
variable (hL : l.length = L) (hb : ∀ i, i < L → 0 ≤ l.getD i 0 ∧ l.getD i 0 ≤ 255)
include hL hb
end
end Go.Proofs.Ytmcmapgllaopmaa.Cd
end

section
namespace Go.Proofs.Ytmcmapgllaopmaa.Cd
open Go.RowKit
set_option linter.unusedVariables false
theorem byte_getD {z : List Int} (h : ∀ x ∈ z, 0 ≤ x ∧ x ≤ 255) (i : Nat) (hi : i < z.length) : 0 ≤ z.getD i 0 ∧ z.getD i 0 ≤ 255 := by
  rw [List.getD_eq_getElem?_getD, List.getElem?_eq_getElem hi]
  exact h _ (List.getElem_mem hi)
end Go.Proofs.Ytmcmapgllaopmaa.Cd
end

section
namespace Go.Proofs.Ytmcmapgllaopmaa.Cd
open Go.RowKit
set_option linter.unusedVariables false
def By (l : List Int) : Prop := ∀ x ∈ l, 0 ≤ x ∧ x ≤ 255
theorem By.app {a b : List Int} (h : By a) (k : By b) : By (a ++ b) := fun x hx => by
  rcases List.mem_append.1 hx with hx | hx
  · exact h x hx
  · exact k x hx
theorem By.cons {a : Int} {b : List Int} (h0 : 0 ≤ a) (h1 : a ≤ 255) (k : By b) : By (a :: b) := fun x hx => by
  rcases List.mem_cons.1 hx with rfl | hx
  · exact ⟨h0, h1⟩
  · exact k x hx
theorem By.nil : By [] := fun x hx => absurd hx (by simp)
theorem be_by : ∀ (k : Nat) (v : Int), By (be k v)
  | 0, _ => By.nil
  | k + 1, v => By.cons (by omega) (by omega) (be_by k v)
theorem sv_by (s : ByteArray) : By (sv s) := fun x hx => by
  unfold sv at hx
  obtain ⟨b, -, rfl⟩ := List.mem_map.1 hx
  have := b.toNat_lt
  omega
theorem id_by {q : List Int} (h : IdOk q) : By q := fun x hx => by
  obtain ⟨i, hi, rfl⟩ := List.getElem_of_mem hx
  have := h.2 i (by have := h.1; omega)
  simpa [List.getD, hi] using this
theorem By.getD {l : List Int} {n : Nat} (h : By l) (hn : n ≤ l.length) : ∀ i, i < n → 0 ≤ l.getD i 0 ∧ l.getD i 0 ≤ 255 := fun i hi => byte_getD h i (by omega)
theorem mvBs_by : ∀ (ms : List Mv), (∀ m ∈ ms, IdOk m.od ∧ IdOk m.nw) → By (mvBs ms)
  | [], _ => By.nil
  | m :: ms, h => by
    have e : mvBs (m :: ms) = mvB m ++ mvBs ms := rfl
    rw [e]
    obtain ⟨a, b⟩ := h m (List.mem_cons_self ..)
    exact By.app (By.app (By.app (By.app (By.app (be_by _ _) (sv_by _)) (id_by a)) (id_by b)) (By.app (be_by _ _) (sv_by _))) (mvBs_by ms (fun z hz => h z (List.mem_cons_of_mem _ hz)))
theorem tdBs_by : ∀ (ts : List Td), (∀ t ∈ ts, IdOk t.id ∧ 0 ≤ t.dd ∧ t.dd ≤ 255) → By (tdBs ts)
  | [], _ => By.nil
  | t :: ts, h => by
    have e : tdBs (t :: ts) = (t.dd :: t.id) ++ tdBs ts := rfl
    rw [e]
    obtain ⟨a, b, c⟩ := h t (List.mem_cons_self ..)
    exact By.app (By.cons b c (id_by a)) (tdBs_by ts (fun z hz => h z (List.mem_cons_of_mem _ hz)))
theorem myBs_by : ∀ (ys : List My), (∀ y ∈ ys, IdOk y.key ∧ By y.l) → By (myBs ys)
  | [], _ => By.nil
  | y :: ys, h => by
    have e : myBs (y :: ys) = myB y ++ myBs ys := rfl
    rw [e]
    obtain ⟨a, b⟩ := h y (List.mem_cons_self ..)
    exact By.app (By.app (By.app (id_by a) (be_by _ _)) b) (myBs_by ys (fun z hz => h z (List.mem_cons_of_mem _ hz)))
theorem txB_by {t : TxS} {G : Nat} {w : World} (hr : t.Rd G w) (h0 : txE t.D = 0) : By (txB t.D) := by
  obtain ⟨a1, a2, a3, a4, a5, a6⟩ := txE_ok ⟨_, _, hr⟩ h0
  have hfg : 0 ≤ fgB t.hh t.hs ∧ fgB t.hh t.hs ≤ 3 := by unfold fgB; cases t.hh <;> cases t.hs <;> decide
  have hy : ∀ y ∈ t.ys, IdOk y.key ∧ By y.l := fun y hy => ⟨hr.hYi y hy, fun x hx => by
    have h5 := (hr.hY.ok y hy).2.2.rd
    obtain ⟨i, hi, rfl⟩ := List.getElem_of_mem hx
    have := h5.byte i (by have := h5.len; omega)
    simpa [List.getD, hi] using this⟩
  have hs : By (t.D.sq.ask t.D.hs).bytes := by
    have hi : IdOk (t.D.sq.ask t.D.hs).og ∧ IdOk (t.D.sq.ask t.D.hs).cu ∧ ∀ x ∈ (t.D.sq.ask t.D.hs).ts, IdOk x.id := by
      unfold SqD.ask
      split
      · exact ⟨hr.ho, hr.hc, hr.hTi⟩
      · exact ⟨idZ_ok, idZ_ok, fun x hx => absurd hx (by simp [SqD.zero])⟩
    unfold SqD.bytes sqBs
    refine By.cons a6.k0 a6.k1 ?_
    split
    · exact By.nil
    · exact By.app (By.app (By.app (By.app (By.app (By.app (be_by _ _) (sv_by _)) (id_by hi.1)) (id_by hi.2.1)) (be_by _ _)) (tdBs_by _ (fun x hx => ⟨hi.2.2 x hx, (a6.ts x hx).2⟩))) (By.app (By.app (be_by _ _) (be_by _ _)) (By.cons (by split <;> decide) (by split <;> decide) By.nil))
  have e : txB t.D = fgB t.hh t.hs :: ((if t.hh = true then be 1 (t.hd.size : Int) ++ sv t.hd else []) ++ be 2 (t.ms.length : Int) ++ mvBs t.ms ++ (if t.hs = true then (t.D.sq.ask t.D.hs).bytes else []) ++ be 2 (t.ys.length : Int) ++ myBs t.ys) := rfl
  rw [e]
  refine By.cons hfg.1 (by omega) (By.app (By.app (By.app (By.app (By.app ?_ (be_by _ _)) (mvBs_by _ hr.hMi)) ?_) (be_by _ _)) (myBs_by _ hy))
  · split
    · exact By.app (be_by _ _) (sv_by _)
    · exact By.nil
  · split
    · exact hs
    · exact By.nil
theorem mvBs_le : ∀ (ms : List Mv) (B : Nat), (∀ m ∈ ms, MvF m ∧ m.nm.size + m.wy.size ≤ B) → (mvBs ms).length ≤ ms.length * (B + 67)
  | [], B, _ => Nat.zero_le _
  | m :: ms, B, h => by
    have e : mvBs (m :: ms) = mvB m ++ mvBs ms := rfl
    obtain ⟨a, b⟩ := h m (List.mem_cons_self ..)
    have h2 := mvBs_le ms B (fun z hz => h z (List.mem_cons_of_mem _ hz))
    have h3 := mvB_len a
    rw [e, List.length_append, List.length_cons, Nat.add_mul]
    omega
theorem myBs_le : ∀ (ys : List My) (B : Nat), (∀ y ∈ ys, MyF y ∧ y.n ≤ B) → (myBs ys).length ≤ ys.length * (B + 36)
  | [], B, _ => Nat.zero_le _
  | y :: ys, B, h => by
    have e : myBs (y :: ys) = myB y ++ myBs ys := rfl
    obtain ⟨a, b⟩ := h y (List.mem_cons_self ..)
    have h2 := myBs_le ys B (fun z hz => h z (List.mem_cons_of_mem _ hz))
    have h3 : (myB y).length = 36 + y.n := by simp [myB, be_length, a.key, a.len]; omega
    rw [e, List.length_append, List.length_cons, Nat.add_mul]
    omega
theorem txB_le {t : TxS} {G : Nat} {w : World} (hr : t.Rd G w) (f : t.Fw) (h0 : txE t.D = 0) : (txB t.D).length ≤ 100000000 := by
  obtain ⟨a1, a2, a3, a4, a5, a6⟩ := txE_ok ⟨_, _, hr⟩ h0
  have hn : t.ms.length = t.n := by have := hr.hM.rd.len; simpa using this
  have hm : t.ys.length = t.m := by have := hr.hY.rd.len; simpa using this
  have h1 := mvBs_le t.ms 80000 (fun m hm => ⟨a2 m hm, by have := f.ms m hm; omega⟩)
  have h2 := myBs_le t.ys 80000 (fun y hy => ⟨a4 y hy, by have := f.ys y hy; omega⟩)
  have h3 : t.ms.length * (80000 + 67) ≤ 100 * (80000 + 67) := Nat.mul_le_mul_right _ (by have := f.n; omega)
  have h4 : t.ys.length * (80000 + 36) ≤ 100 * (80000 + 36) := Nat.mul_le_mul_right _ (by have := f.m; omega)
  have h5 : (t.D.sq.ask t.D.hs).bytes.length ≤ 3000000 := by
    unfold SqD.bytes sqBs
    split
    · simp
    · have := a6.n
      have := a6.br
      simp [sqH, sqT, be_length, sv_len, a6.og, a6.cu, tdBs_len _ (fun t ht => (a6.ts t ht).1)]
      omega
  have e : txB t.D = fgB t.hh t.hs :: ((if t.hh = true then be 1 (t.hd.size : Int) ++ sv t.hd else []) ++ be 2 (t.ms.length : Int) ++ mvBs t.ms ++ (if t.hs = true then (t.D.sq.ask t.D.hs).bytes else []) ++ be 2 (t.ys.length : Int) ++ myBs t.ys) := rfl
  have h6 : (if t.hh = true then be 1 (t.hd.size : Int) ++ sv t.hd else []).length ≤ 100000 := by
    have := f.s
    split
    · simp [be_length, sv_len]; omega
    · simp
  have h7 : (if t.hs = true then (t.D.sq.ask t.D.hs).bytes else []).length ≤ 3000000 := by
    split
    · exact h5
    · simp
  rw [e]
  simp only [List.length_cons, List.length_append, be_length]
  omega
end Go.Proofs.Ytmcmapgllaopmaa.Cd
end

section
namespace Go.Proofs.Ytmcmapgllaopmaa.Cd
open Go.RowKit
set_option linter.unusedVariables false
theorem wpList_buildT2 {ops : Array Oper} {rest : List Oper} {o : Oper} {a : Act} {w : World} {Q : Exit → Act → World → Prop} (hgd : o.guard = none) (t : TypeId) (i j : Nat) (x y : Operand) (ho : o.op = .build t #[(i, x), (j, y)]) (v u : Value) (hx : a.eval x = v) (hy : a.eval y = u) (cs : Array Value) (hb : Try.prog.built t [(i, v), (j, u)] = some cs)
    (h : wpList Try.prog ops Q rest (a.put o.dst (.agg cs)) w) : wpList Try.prog ops Q (o :: rest) a w := by
  refine wpList_build hgd t #[(i, x), (j, y)] ho ?_ ?_
  · simp [hx, hy, hb]
  · simpa [hx, hy, hb] using h
theorem step_buildT2 (w : World) {ops : Array Oper} {o : Oper} {a : Act} {K : Act → World → Prop} {Q : Exit → Act → World → Prop} {E : Prop} (hgd : o.guard = none) (t : TypeId) (i j : Nat) (x y : Operand) (ho : o.op = .build t #[(i, x), (j, y)]) (v u : Value) (hx : a.eval x = v) (hy : a.eval y = u) (cs : Array Value) (hb : Try.prog.built t [(i, v), (j, u)] = some cs)
    (h : K (a.put o.dst (.agg cs)) w) : if Region.wanted o (yielded ops a.tmps) = true then Oper.wp Try.prog o a w K Q else E := by
  have hw : Region.wanted o (yielded ops a.tmps) = true := by simp [Region.wanted, hgd]
  rw [if_pos hw]
  refine wp_build t #[(i, x), (j, y)] ho ?_ ?_
  · simp [hx, hy, hb]
  · simpa [hx, hy, hb] using h
theorem TxS.Rd.belowG {t : TxS} {G B : Nat} {w w' : World} (h : t.Rd G w) (hb : Below B w w') (hs : B ≤ w.heap.size) (hG : G ≤ B) : t.Rd G w' :=
  ⟨h.ho, h.hc, h.hM.below hb hG, h.hMi, h.hT.below hb hG, h.hTi, h.hY.below hb hs hG, h.hYi, h.hn, h.hm, h.hnt, h.hhd, h.hbr⟩
theorem sQT_of {P : TxS} {k : Int} {br : ByteArray} {og cu : List Int} {ts : List Td} {dn md : Int} {st : Bool} (h : P.pl = ⟨false, akH false ByteArray.empty, [], true, ⟨k, br, og, cu, ts, dn, md, st⟩, []⟩) (hn : P.n = P.ms.length) (hnt : P.nt = P.ts.length) (hm : P.m = P.ys.length) :
    ∃ At Ct A C Am Cm, P = sQT k br og cu At ts.length Ct ts dn md st A C Am Cm := by
  obtain ⟨hh, hd, A, n, C, ms, hs, k', br', og', cu', At, nt, Ct, ts', dn', md', st', Am, m, Cm, ys⟩ := P
  simp only [TxS.pl, TxP.mk.injEq, SqD.mk.injEq] at h
  obtain ⟨rfl, rfl, rfl, rfl, ⟨rfl, rfl, rfl, rfl, rfl, rfl, rfl, rfl⟩, h6⟩ := h
  have h7 : ys = [] := by simpa using h6
  subst h7
  dsimp only at hn hnt hm
  subst hn hnt hm
  exact ⟨At, Ct, A, C, Am, Cm, rfl⟩
theorem own_none_td (w : World) (B : Nat) : w.ownsRow B 84 33 (.slice none 0 0) 0 (tdsV []) := ⟨by simp [tdsV], .inl ⟨rfl, rfl⟩⟩
set_option maxRecDepth 100000 in
set_option maxHeartbeats 16000000 in
theorem walk_seqs (w : World) (k : Int) (br : ByteArray) (og cu : List Int) (At : Option Addr) (nt Ct : Nat) (ts : List Td) (dn md : Int) (st : Bool) (fi : Int) (hbs : br.size ≤ 140737488351232) (ho : IdOk og) (hc : IdOk cu) (hT : RdT w.heap.size w At nt Ct ts) (hTi : ∀ x ∈ ts, IdOk x.id ∧ -9223372036854775808 ≤ x.dd ∧ x.dd ≤ 9223372036854775807) (hnt : nt ≤ 5000000000000) (hk : -9223372036854775808 ≤ k ∧ k ≤ 9223372036854775807) (hdn : -9223372036854775808 ≤ dn ∧ dn ≤ 9223372036854775807) (hmd : -9223372036854775808 ≤ md ∧ md ≤ 9223372036854775807) (hfi : -9223372036854775808 ≤ fi ∧ fi ≤ 9223372036854775807) :
    Calls Try.prog 10 #[.agg (sqV k br og cu (.slice At nt Ct) dn md st).toArray, .int .i64 fi] w fun e w' => e = .returned (.bool true) ∧ Below w.heap.size w w' := by
  have hql := sqV_len (k := k) (br := br) (td := Value.slice At nt Ct) (dn := dn) (md := md) (st := st) ho.1 hc.1
  have hb1 := (Below.refl w.heap.size w).alloc (Nat.le_refl _) (.cells (sqV k br og cu (.slice At nt Ct) dn md st).toArray 65)
  have HX := Lib.hid (row_newL w (sqV k br og cu (.slice At nt Ct) dn md st) 65 70 hql)
  have HT := Lib.hid (hT.below hb1 (Nat.le_refl _))
  have HBl := Lib.hid hb1
  have HO := Lib.hid ho
  have HC0 := Lib.hid hc
  have hol := ho.1
  have hcl := hc.1
  have HTi := Lib.hid hTi
  have HK := Lib.hid (known_any (w.alloc (.cells (sqV k br og cu (.slice At nt Ct) dn md st).toArray 65)))
  have hzc := zeroTx
  have hZt : tx0.toArray.size = 75 := by rw [List.size_toArray, tx0_len]
  generalize tx0.toArray = ZT at *
  have HZt := Lib.hid hZt
  obtain ⟨DS, hDS⟩ : ∃ DS, DS = sqV k br og cu (.slice At nt Ct) dn md st := ⟨_, rfl⟩
  rw [← hDS] at HBl HT HK HX ⊢
  have HDS := Lib.hid hDS
  have HPost : Hid (∀ w' : World, Below w.heap.size w w' → ((fun e w' => e = Ending.returned (.bool true) ∧ Below w.heap.size w w') (Ending.returned (.bool true)) w')) := Lib.hid (fun w' h => ⟨rfl, h⟩)
  generalize hPD : (fun (e : Ending) (w' : World) => e = Ending.returned (.bool true) ∧ Below w.heap.size w w') = PO at *
  clear hPD hDS hql hb1 ho hc hT hTi hZt
  go_enter Try.func10, Try.ntmps10
  go_upto_region 1 with (fail)
  generalize w.alloc (.cells DS.toArray 65) = wA at *
  generalize w.heap.size = X at *
  go_wp2_with fail
  refine HK.out.mono ?_
  rintro e w2 ⟨rfl, hb⟩
  clear HK
  have e_HBl := Lib.hid (HBl.out.trans (hb.mono (Nat.le_of_lt HX.out.lt)))
  have e_HT := Lib.hid (HT.out.below hb (Nat.le_of_lt HX.out.lt))
  have e_HX := Lib.hid (World.rowIs.of_block HX.out (hb.block _ HX.out.lt))
  clear HBl HT HX
  have HBl := e_HBl
  have HT := e_HT
  have HX := e_HX
  clear e_HBl e_HT e_HX
  clear hb
  have e_HX := HX.out
  rw [HDS.out] at e_HX
  clear HX HDS
  have HX := Lib.hid e_HX
  clear e_HX
  have hc66 : w2.cell? ⟨X, 66, none⟩ = some (.slice At nt Ct) := (HX.out.cell (i := 66) (by decide)).trans (by rw [sqV_td hol hcl])
  have hc1 : w2.cell? ⟨X, 1, none⟩ = some (.string br) := HX.out.cell (i := 1) (by decide)
  by_cases ga : 200 < nt
  · have hda : decide ((200 : Int) < (nt : Int)) = true := by simp; omega
    go_wp2_with fail
    exact HPost.out _ HBl.out
  have hda : decide ((200 : Int) < (nt : Int)) = false := by simp; omega
  by_cases gb : 255 < br.size
  · have hdb : decide ((255 : Int) < (br.size : Int)) = true := by simp; omega
    go_wp2_with fail
    exact HPost.out _ HBl.out
  have hdb : decide ((255 : Int) < (br.size : Int)) = false := by simp; omega
  have HC := Lib.hid (Wi.within_any k 255 w2 (by omega) (by omega) hk.1 hk.2)
  have hc0 : w2.cell? ⟨X, 0, none⟩ = some (.int .i64 k) := HX.out.cell (i := 0) (by decide)
  have hf0 : w2.frozen? ⟨X, 0, none⟩ = false := HX.out.frozen _
  obtain ⟨ka, hka⟩ : ∃ ka : Int, ka = k % 255 := ⟨_, rfl⟩
  rw [← hka] at HC
  have hK0 : 0 ≤ ka ∧ ka < 255 := by omega
  obtain ⟨K1, hK1⟩ : ∃ K1 : Int, K1 = 1 + ka := ⟨_, rfl⟩
  have hw1 : IntKind.i64.wrap (1 + ka) = K1 := by rw [IntWalk.i64_in _ (by omega)]; omega
  have hKb : 1 ≤ K1 ∧ K1 ≤ 255 := by omega
  clear hka hK1 hK0
  go_upto_region 5 with (fail)
  clear hda hdb hc66 hc1
  go_wp2_with fail
  refine HC.out.mono ?_
  rintro e w' ⟨rfl, rfl⟩
  clear HC
  go_upto_region 6 with (fail)
  clear hc0 hf0 hw1
  have hX3 := row_setL HX.out (sqV_len hol hcl) 0 (.int .i64 K1)
  rw [sqV_set0] at hX3
  have hb3 := (Below.refl X w2).setCell (p := ⟨X, 0, none⟩) (Nat.le_refl X) (.int .i64 K1)
  have e_HT := Lib.hid (HT.out.below hb3 (Nat.le_refl X))
  have e_HBl := Lib.hid (HBl.out.trans hb3)
  clear HX HT HBl hb3
  have HX := Lib.hid hX3
  have HT := e_HT
  have HBl := e_HBl
  clear hX3 e_HT e_HBl
  generalize w2.setCell ⟨X, 0, none⟩ (.int .i64 K1) = w3 at *
  have hc67 : w3.drew.cell? ⟨X, 67, none⟩ = some (.int .i64 dn) := (HX.out.cell (i := 67) (by decide)).trans (by simp [sqV, List.getD, bv_len, hol, hcl])
  have hc68 : w3.drew.cell? ⟨X, 68, none⟩ = some (.int .i64 md) := (HX.out.cell (i := 68) (by decide)).trans (by simp [sqV, List.getD, bv_len, hol, hcl])
  have hf67 : w3.frozen? ⟨X, 67, none⟩ = false := HX.out.frozen _
  have hf68 : w3.frozen? ⟨X, 68, none⟩ = false := HX.out.frozen _
  have HC1 := Lib.hid (Wi.within_any dn 65536 w3.drew (by omega) (by omega) hdn.1 hdn.2)
  have HC2 := Lib.hid (Wi.within_any md 65536 w3.drew (by omega) (by omega) hmd.1 hmd.2)
  obtain ⟨D1, hD1⟩ : ∃ D1 : Int, D1 = dn % 65536 := ⟨_, rfl⟩
  obtain ⟨M1, hM1⟩ : ∃ M1 : Int, M1 = md % 65536 := ⟨_, rfl⟩
  rw [← hD1] at HC1
  rw [← hM1] at HC2
  have hDb : 0 ≤ D1 ∧ D1 ≤ 65535 := by omega
  have hMb : 0 ≤ M1 ∧ M1 ≤ 65535 := by omega
  clear hD1 hM1
  have hX4 := row_setL HX.out (sqV_len hol hcl) 67 (.int .i64 D1)
  rw [(sqV_set hol hcl).2.2.1] at hX4
  have hc68b : (w3.setCell ⟨X, 67, none⟩ (.int .i64 D1)).drew.cell? ⟨X, 68, none⟩ = some (.int .i64 md) := (hX4.cell (i := 68) (by decide)).trans (by simp [sqV, List.getD, bv_len, hol, hcl])
  have hf68b : (w3.setCell ⟨X, 67, none⟩ (.int .i64 D1)).frozen? ⟨X, 68, none⟩ = false := hX4.frozen _
  have hX5 := row_setL hX4 (sqV_len hol hcl) 68 (.int .i64 M1)
  rw [(sqV_set hol hcl).2.2.2.1] at hX5
  have hb3 := ((Below.refl X w3).setCell (p := ⟨X, 67, none⟩) (Nat.le_refl X) (.int .i64 D1)).setCell (p := ⟨X, 68, none⟩) (Nat.le_refl X) (.int .i64 M1)
  have hb4 : Below X w3 ((w3.setCell ⟨X, 67, none⟩ (.int .i64 D1)).setCell ⟨X, 68, none⟩ (.int .i64 M1)).drew := ⟨hb3.os, hb3.tape, hb3.output, hb3.size, hb3.block⟩
  have e_HX : Hid (((w3.setCell ⟨X, 67, none⟩ (.int .i64 D1)).setCell ⟨X, 68, none⟩ (.int .i64 M1)).drew.rowIs X 65 70 (fun i => (sqV K1 br og cu (.slice At nt Ct) D1 M1 st).getD i undef)) := Lib.hid hX5
  have e_HT := Lib.hid (HT.out.below hb4 (Nat.le_refl X))
  have e_HBl := Lib.hid (HBl.out.trans hb4)
  clear hX4 hX5 hb3 hb4 hk hdn hmd
  go_cut [] (fun wx => Hid (wx.rowIs X 65 70 (fun i => (sqV K1 br og cu (.slice At nt Ct) D1 M1 st).getD i undef)) ∧ Hid (RdT X wx At nt Ct ts) ∧ Hid (Below X w wx))
  case first =>
    clear HX HT HBl
    refine wp_region_noPanic ?_
    refine wp_region_held_drew (S := (fun _ => True)) (by kernel_rfl) ?_ (fun hHeld => ?_)
    · ((try dsimp only); done)
    refine wpAnyH_take (i := 0) (oi := { dst := some 29, op := Op.fieldAddr 65 (Operand.tmp 2) 5, type := 0, pos := "outright.go:100", after := #[], guard := none }) (v := ?_) rfl (by kernel_rfl) (by kernel_rfl) (by kernel_rfl) (fun _ _ _ h => h) (Or.inl ⟨by rfl, ?_⟩) (by assumption) ?_
    rotate_left 1
    · ((intro w hSw; (try dsimp only at hSw); go_simp) <;> with_reducible rfl)
    (try simp only [Act.put, List.setIfInBounds_toArray, List.set_cons_zero, List.set_cons_succ])
    refine wpAnyH_take (i := 3) (oi := { dst := some 32, op := Op.fieldAddr 65 (Operand.tmp 2) 6, type := 0, pos := "outright.go:100", after := #[], guard := none }) (v := ?_) rfl (by kernel_rfl) (by kernel_rfl) (by kernel_rfl) (fun _ _ _ h => h) (Or.inl ⟨by rfl, ?_⟩) (by assumption) ?_
    rotate_left 1
    · ((intro w hSw; (try dsimp only at hSw); go_simp) <;> with_reducible rfl)
    (try simp only [Act.put, List.setIfInBounds_toArray, List.set_cons_zero, List.set_cons_succ])
    refine wpAnyH_ready (rs := [1, 4]) (by kernel_rfl) (by simp) ?_
    refine AllReadyH.cons (o := { dst := some 30, op := Op.load 3 (Operand.tmp 29), type := 3, pos := "outright.go:100", after := #[{ on := 0, ground := Ground.data }], guard := none }) rfl (fun K hK => ?_) ?_
    · go_simp
      refine hK.out _ _ ?_ (fun hNew => ?_)
      · ((try dsimp only); done)
      clear hK K hHeld
      have hHeld := hNew
      clear hNew
      (try simp only [Act.put, List.setIfInBounds_toArray, List.set_cons_zero, List.set_cons_succ])
      refine wpAnyH_ready (rs := [2, 4]) (by kernel_rfl) (by simp) ?_
      refine AllReadyH.cons (o := { dst := some 31, op := Op.call { callee := Callee.value (Operand.func 39), args := #[Operand.tmp 30, Operand.const (Value.int IntKind.i64 65536)], argTypes := #[3, 3] }, type := 3, pos := "outright.go:100", after := #[{ on := 1, ground := Ground.data }], guard := none }) rfl (fun K hK => ?_) ?_
      · go_simp
        refine HC1.out.mono ?_
        rintro e wB ⟨rfl, rfl⟩
        (try go_wp2_with fail)
        refine hK.out _ _ ?_ (fun hNew => ?_)
        · ((try dsimp only); done)
        clear hK K hHeld
        have hHeld := hNew
        clear hNew
        (try simp only [Act.put, List.setIfInBounds_toArray, List.set_cons_zero, List.set_cons_succ])
        refine wpAnyH_ready (rs := [4]) (by kernel_rfl) (by simp) ?_
        refine AllReadyH.cons (o := { dst := some 33, op := Op.load 3 (Operand.tmp 32), type := 3, pos := "outright.go:100", after := #[{ on := 3, ground := Ground.data }], guard := none }) rfl (fun K hK => ?_) ?_
        · go_simp
          refine hK.out _ _ ?_ (fun hNew => ?_)
          · ((try dsimp only); done)
          clear hK K hHeld
          have hHeld := hNew
          clear hNew
          (try simp only [Act.put, List.setIfInBounds_toArray, List.set_cons_zero, List.set_cons_succ])
          refine wpAnyH_take (i := 6) (oi := { dst := some 35, op := Op.fieldAddr 65 (Operand.tmp 2) 5, type := 0, pos := "outright.go:100", after := #[{ on := 0, ground := Ground.phase }, { on := 1, ground := Ground.phase }, { on := 2, ground := Ground.phase }, { on := 3, ground := Ground.phase }, { on := 4, ground := Ground.phase }, { on := 5, ground := Ground.textOnly Departure.lateStoresUnsure }], guard := none }) (v := ?_) rfl (by kernel_rfl) (by kernel_rfl) (by kernel_rfl) (fun _ _ _ h => h) (Or.inl ⟨by rfl, ?_⟩) (by assumption) ?_
          rotate_left 1
          · ((intro w hSw; (try dsimp only at hSw); go_simp) <;> with_reducible rfl)
          (try simp only [Act.put, List.setIfInBounds_toArray, List.set_cons_zero, List.set_cons_succ])
          refine wpAnyH_ready (rs := [5]) (by kernel_rfl) (by simp) ?_
          refine AllReadyH.cons (o := { dst := some 34, op := Op.call { callee := Callee.value (Operand.func 39), args := #[Operand.tmp 33, Operand.const (Value.int IntKind.i64 65536)], argTypes := #[3, 3] }, type := 3, pos := "outright.go:100", after := #[{ on := 4, ground := Ground.data }, { on := 2, ground := Ground.chain }], guard := none }) rfl (fun K hK => ?_) ?_
          · go_simp
            refine HC2.out.mono ?_
            rintro e wB ⟨rfl, rfl⟩
            (try go_wp2_with fail)
            refine hK.out _ _ ?_ (fun hNew => ?_)
            · ((try dsimp only); done)
            clear hK K hHeld
            have hHeld := hNew
            clear hNew
            (try simp only [Act.put, List.setIfInBounds_toArray, List.set_cons_zero, List.set_cons_succ])
            refine wpAnyH_ready (rs := [7]) (by kernel_rfl) (by simp) ?_
            refine AllReadyH.cons (o := { dst := none, op := Op.store 3 (Operand.tmp 35) (Operand.tmp 31), type := 0, pos := "outright.go:100", after := #[{ on := 6, ground := Ground.data }, { on := 2, ground := Ground.data }, { on := 5, ground := Ground.chain }, { on := 0, ground := Ground.phase }, { on := 1, ground := Ground.phase }, { on := 2, ground := Ground.phase }, { on := 3, ground := Ground.phase }, { on := 4, ground := Ground.phase }, { on := 5, ground := Ground.textOnly Departure.lateStoresUnsure }], guard := none }) rfl (fun K hK => ?_) ?_
            · go_simp
              refine hK.out _ _ ?_ (fun hNew => ?_)
              · ((try dsimp only); done)
              clear hK K hHeld
              have hHeld := hNew
              clear hNew
              (try simp only [Act.put, List.setIfInBounds_toArray, List.set_cons_zero, List.set_cons_succ])
              refine wpAnyH_take (i := 8) (oi := { dst := some 36, op := Op.fieldAddr 65 (Operand.tmp 2) 6, type := 0, pos := "outright.go:100", after := #[{ on := 0, ground := Ground.phase }, { on := 1, ground := Ground.phase }, { on := 2, ground := Ground.phase }, { on := 3, ground := Ground.phase }, { on := 4, ground := Ground.phase }, { on := 5, ground := Ground.phase }, { on := 6, ground := Ground.phase }, { on := 7, ground := Ground.phase }], guard := none }) (v := ?_) rfl (by kernel_rfl) (by kernel_rfl) (by kernel_rfl) (fun _ _ _ h => h) (Or.inl ⟨by rfl, ?_⟩) (by assumption) ?_
              rotate_left 1
              · ((intro w hSw; (try dsimp only at hSw); go_simp) <;> with_reducible rfl)
              (try simp only [Act.put, List.setIfInBounds_toArray, List.set_cons_zero, List.set_cons_succ])
              refine wpAnyH_ready (rs := [9]) (by kernel_rfl) (by simp) ?_
              refine AllReadyH.cons (o := { dst := none, op := Op.store 3 (Operand.tmp 36) (Operand.tmp 34), type := 0, pos := "outright.go:100", after := #[{ on := 8, ground := Ground.data }, { on := 5, ground := Ground.data }, { on := 7, ground := Ground.chain }, { on := 0, ground := Ground.phase }, { on := 1, ground := Ground.phase }, { on := 2, ground := Ground.phase }, { on := 3, ground := Ground.phase }, { on := 4, ground := Ground.phase }, { on := 5, ground := Ground.phase }, { on := 6, ground := Ground.phase }, { on := 7, ground := Ground.phase }], guard := none }) rfl (fun K hK => ?_) ?_
              · go_simp
                refine hK.out _ _ ?_ (fun hNew => ?_)
                · ((try dsimp only); done)
                clear hK K hHeld
                have hHeld := hNew
                clear hNew
                (try simp only [Act.put, List.setIfInBounds_toArray, List.set_cons_zero, List.set_cons_succ])
                refine wpAnyH_done (by kernel_rfl) ?_ _
                refine NoPanic.normal ?_
                clear hHeld
                go_wp2_with fail
                go_meet
                exact ⟨e_HX, e_HT, e_HBl⟩
              exact AllReadyH.nil
            exact AllReadyH.nil
          exact AllReadyH.nil
        exact AllReadyH.nil
      refine AllReadyH.cons (o := { dst := some 33, op := Op.load 3 (Operand.tmp 32), type := 3, pos := "outright.go:100", after := #[{ on := 3, ground := Ground.data }], guard := none }) rfl (fun K hK => ?_) ?_
      · go_simp
        refine hK.out _ _ ?_ (fun hNew => ?_)
        · ((try dsimp only); done)
        clear hK K hHeld
        have hHeld := hNew
        clear hNew
        (try simp only [Act.put, List.setIfInBounds_toArray, List.set_cons_zero, List.set_cons_succ])
        refine wpAnyH_ready (rs := [2]) (by kernel_rfl) (by simp) ?_
        refine AllReadyH.cons (o := { dst := some 31, op := Op.call { callee := Callee.value (Operand.func 39), args := #[Operand.tmp 30, Operand.const (Value.int IntKind.i64 65536)], argTypes := #[3, 3] }, type := 3, pos := "outright.go:100", after := #[{ on := 1, ground := Ground.data }], guard := none }) rfl (fun K hK => ?_) ?_
        · go_simp
          refine HC1.out.mono ?_
          rintro e wB ⟨rfl, rfl⟩
          (try go_wp2_with fail)
          refine hK.out _ _ ?_ (fun hNew => ?_)
          · ((try dsimp only); done)
          clear hK K hHeld
          have hHeld := hNew
          clear hNew
          (try simp only [Act.put, List.setIfInBounds_toArray, List.set_cons_zero, List.set_cons_succ])
          refine wpAnyH_take (i := 6) (oi := { dst := some 35, op := Op.fieldAddr 65 (Operand.tmp 2) 5, type := 0, pos := "outright.go:100", after := #[{ on := 0, ground := Ground.phase }, { on := 1, ground := Ground.phase }, { on := 2, ground := Ground.phase }, { on := 3, ground := Ground.phase }, { on := 4, ground := Ground.phase }, { on := 5, ground := Ground.textOnly Departure.lateStoresUnsure }], guard := none }) (v := ?_) rfl (by kernel_rfl) (by kernel_rfl) (by kernel_rfl) (fun _ _ _ h => h) (Or.inl ⟨by rfl, ?_⟩) (by assumption) ?_
          rotate_left 1
          · ((intro w hSw; (try dsimp only at hSw); go_simp) <;> with_reducible rfl)
          (try simp only [Act.put, List.setIfInBounds_toArray, List.set_cons_zero, List.set_cons_succ])
          refine wpAnyH_ready (rs := [5]) (by kernel_rfl) (by simp) ?_
          refine AllReadyH.cons (o := { dst := some 34, op := Op.call { callee := Callee.value (Operand.func 39), args := #[Operand.tmp 33, Operand.const (Value.int IntKind.i64 65536)], argTypes := #[3, 3] }, type := 3, pos := "outright.go:100", after := #[{ on := 4, ground := Ground.data }, { on := 2, ground := Ground.chain }], guard := none }) rfl (fun K hK => ?_) ?_
          · go_simp
            refine HC2.out.mono ?_
            rintro e wB ⟨rfl, rfl⟩
            (try go_wp2_with fail)
            refine hK.out _ _ ?_ (fun hNew => ?_)
            · ((try dsimp only); done)
            clear hK K hHeld
            have hHeld := hNew
            clear hNew
            (try simp only [Act.put, List.setIfInBounds_toArray, List.set_cons_zero, List.set_cons_succ])
            refine wpAnyH_ready (rs := [7]) (by kernel_rfl) (by simp) ?_
            refine AllReadyH.cons (o := { dst := none, op := Op.store 3 (Operand.tmp 35) (Operand.tmp 31), type := 0, pos := "outright.go:100", after := #[{ on := 6, ground := Ground.data }, { on := 2, ground := Ground.data }, { on := 5, ground := Ground.chain }, { on := 0, ground := Ground.phase }, { on := 1, ground := Ground.phase }, { on := 2, ground := Ground.phase }, { on := 3, ground := Ground.phase }, { on := 4, ground := Ground.phase }, { on := 5, ground := Ground.textOnly Departure.lateStoresUnsure }], guard := none }) rfl (fun K hK => ?_) ?_
            · go_simp
              refine hK.out _ _ ?_ (fun hNew => ?_)
              · ((try dsimp only); done)
              clear hK K hHeld
              have hHeld := hNew
              clear hNew
              (try simp only [Act.put, List.setIfInBounds_toArray, List.set_cons_zero, List.set_cons_succ])
              refine wpAnyH_take (i := 8) (oi := { dst := some 36, op := Op.fieldAddr 65 (Operand.tmp 2) 6, type := 0, pos := "outright.go:100", after := #[{ on := 0, ground := Ground.phase }, { on := 1, ground := Ground.phase }, { on := 2, ground := Ground.phase }, { on := 3, ground := Ground.phase }, { on := 4, ground := Ground.phase }, { on := 5, ground := Ground.phase }, { on := 6, ground := Ground.phase }, { on := 7, ground := Ground.phase }], guard := none }) (v := ?_) rfl (by kernel_rfl) (by kernel_rfl) (by kernel_rfl) (fun _ _ _ h => h) (Or.inl ⟨by rfl, ?_⟩) (by assumption) ?_
              rotate_left 1
              · ((intro w hSw; (try dsimp only at hSw); go_simp) <;> with_reducible rfl)
              (try simp only [Act.put, List.setIfInBounds_toArray, List.set_cons_zero, List.set_cons_succ])
              refine wpAnyH_ready (rs := [9]) (by kernel_rfl) (by simp) ?_
              refine AllReadyH.cons (o := { dst := none, op := Op.store 3 (Operand.tmp 36) (Operand.tmp 34), type := 0, pos := "outright.go:100", after := #[{ on := 8, ground := Ground.data }, { on := 5, ground := Ground.data }, { on := 7, ground := Ground.chain }, { on := 0, ground := Ground.phase }, { on := 1, ground := Ground.phase }, { on := 2, ground := Ground.phase }, { on := 3, ground := Ground.phase }, { on := 4, ground := Ground.phase }, { on := 5, ground := Ground.phase }, { on := 6, ground := Ground.phase }, { on := 7, ground := Ground.phase }], guard := none }) rfl (fun K hK => ?_) ?_
              · go_simp
                refine hK.out _ _ ?_ (fun hNew => ?_)
                · ((try dsimp only); done)
                clear hK K hHeld
                have hHeld := hNew
                clear hNew
                (try simp only [Act.put, List.setIfInBounds_toArray, List.set_cons_zero, List.set_cons_succ])
                refine wpAnyH_done (by kernel_rfl) ?_ _
                refine NoPanic.normal ?_
                clear hHeld
                go_wp2_with fail
                go_meet
                exact ⟨e_HX, e_HT, e_HBl⟩
              exact AllReadyH.nil
            exact AllReadyH.nil
          exact AllReadyH.nil
        exact AllReadyH.nil
      exact AllReadyH.nil
    refine AllReadyH.cons (o := { dst := some 33, op := Op.load 3 (Operand.tmp 32), type := 3, pos := "outright.go:100", after := #[{ on := 3, ground := Ground.data }], guard := none }) rfl (fun K hK => ?_) ?_
    · go_simp
      refine hK.out _ _ ?_ (fun hNew => ?_)
      · ((try dsimp only); done)
      clear hK K hHeld
      have hHeld := hNew
      clear hNew
      (try simp only [Act.put, List.setIfInBounds_toArray, List.set_cons_zero, List.set_cons_succ])
      refine wpAnyH_ready (rs := [1]) (by kernel_rfl) (by simp) ?_
      refine AllReadyH.cons (o := { dst := some 30, op := Op.load 3 (Operand.tmp 29), type := 3, pos := "outright.go:100", after := #[{ on := 0, ground := Ground.data }], guard := none }) rfl (fun K hK => ?_) ?_
      · go_simp
        refine hK.out _ _ ?_ (fun hNew => ?_)
        · ((try dsimp only); done)
        clear hK K hHeld
        have hHeld := hNew
        clear hNew
        (try simp only [Act.put, List.setIfInBounds_toArray, List.set_cons_zero, List.set_cons_succ])
        refine wpAnyH_ready (rs := [2]) (by kernel_rfl) (by simp) ?_
        refine AllReadyH.cons (o := { dst := some 31, op := Op.call { callee := Callee.value (Operand.func 39), args := #[Operand.tmp 30, Operand.const (Value.int IntKind.i64 65536)], argTypes := #[3, 3] }, type := 3, pos := "outright.go:100", after := #[{ on := 1, ground := Ground.data }], guard := none }) rfl (fun K hK => ?_) ?_
        · go_simp
          refine HC1.out.mono ?_
          rintro e wB ⟨rfl, rfl⟩
          (try go_wp2_with fail)
          refine hK.out _ _ ?_ (fun hNew => ?_)
          · ((try dsimp only); done)
          clear hK K hHeld
          have hHeld := hNew
          clear hNew
          (try simp only [Act.put, List.setIfInBounds_toArray, List.set_cons_zero, List.set_cons_succ])
          refine wpAnyH_take (i := 6) (oi := { dst := some 35, op := Op.fieldAddr 65 (Operand.tmp 2) 5, type := 0, pos := "outright.go:100", after := #[{ on := 0, ground := Ground.phase }, { on := 1, ground := Ground.phase }, { on := 2, ground := Ground.phase }, { on := 3, ground := Ground.phase }, { on := 4, ground := Ground.phase }, { on := 5, ground := Ground.textOnly Departure.lateStoresUnsure }], guard := none }) (v := ?_) rfl (by kernel_rfl) (by kernel_rfl) (by kernel_rfl) (fun _ _ _ h => h) (Or.inl ⟨by rfl, ?_⟩) (by assumption) ?_
          rotate_left 1
          · ((intro w hSw; (try dsimp only at hSw); go_simp) <;> with_reducible rfl)
          (try simp only [Act.put, List.setIfInBounds_toArray, List.set_cons_zero, List.set_cons_succ])
          refine wpAnyH_ready (rs := [5]) (by kernel_rfl) (by simp) ?_
          refine AllReadyH.cons (o := { dst := some 34, op := Op.call { callee := Callee.value (Operand.func 39), args := #[Operand.tmp 33, Operand.const (Value.int IntKind.i64 65536)], argTypes := #[3, 3] }, type := 3, pos := "outright.go:100", after := #[{ on := 4, ground := Ground.data }, { on := 2, ground := Ground.chain }], guard := none }) rfl (fun K hK => ?_) ?_
          · go_simp
            refine HC2.out.mono ?_
            rintro e wB ⟨rfl, rfl⟩
            (try go_wp2_with fail)
            refine hK.out _ _ ?_ (fun hNew => ?_)
            · ((try dsimp only); done)
            clear hK K hHeld
            have hHeld := hNew
            clear hNew
            (try simp only [Act.put, List.setIfInBounds_toArray, List.set_cons_zero, List.set_cons_succ])
            refine wpAnyH_ready (rs := [7]) (by kernel_rfl) (by simp) ?_
            refine AllReadyH.cons (o := { dst := none, op := Op.store 3 (Operand.tmp 35) (Operand.tmp 31), type := 0, pos := "outright.go:100", after := #[{ on := 6, ground := Ground.data }, { on := 2, ground := Ground.data }, { on := 5, ground := Ground.chain }, { on := 0, ground := Ground.phase }, { on := 1, ground := Ground.phase }, { on := 2, ground := Ground.phase }, { on := 3, ground := Ground.phase }, { on := 4, ground := Ground.phase }, { on := 5, ground := Ground.textOnly Departure.lateStoresUnsure }], guard := none }) rfl (fun K hK => ?_) ?_
            · go_simp
              refine hK.out _ _ ?_ (fun hNew => ?_)
              · ((try dsimp only); done)
              clear hK K hHeld
              have hHeld := hNew
              clear hNew
              (try simp only [Act.put, List.setIfInBounds_toArray, List.set_cons_zero, List.set_cons_succ])
              refine wpAnyH_take (i := 8) (oi := { dst := some 36, op := Op.fieldAddr 65 (Operand.tmp 2) 6, type := 0, pos := "outright.go:100", after := #[{ on := 0, ground := Ground.phase }, { on := 1, ground := Ground.phase }, { on := 2, ground := Ground.phase }, { on := 3, ground := Ground.phase }, { on := 4, ground := Ground.phase }, { on := 5, ground := Ground.phase }, { on := 6, ground := Ground.phase }, { on := 7, ground := Ground.phase }], guard := none }) (v := ?_) rfl (by kernel_rfl) (by kernel_rfl) (by kernel_rfl) (fun _ _ _ h => h) (Or.inl ⟨by rfl, ?_⟩) (by assumption) ?_
              rotate_left 1
              · ((intro w hSw; (try dsimp only at hSw); go_simp) <;> with_reducible rfl)
              (try simp only [Act.put, List.setIfInBounds_toArray, List.set_cons_zero, List.set_cons_succ])
              refine wpAnyH_ready (rs := [9]) (by kernel_rfl) (by simp) ?_
              refine AllReadyH.cons (o := { dst := none, op := Op.store 3 (Operand.tmp 36) (Operand.tmp 34), type := 0, pos := "outright.go:100", after := #[{ on := 8, ground := Ground.data }, { on := 5, ground := Ground.data }, { on := 7, ground := Ground.chain }, { on := 0, ground := Ground.phase }, { on := 1, ground := Ground.phase }, { on := 2, ground := Ground.phase }, { on := 3, ground := Ground.phase }, { on := 4, ground := Ground.phase }, { on := 5, ground := Ground.phase }, { on := 6, ground := Ground.phase }, { on := 7, ground := Ground.phase }], guard := none }) rfl (fun K hK => ?_) ?_
              · go_simp
                refine hK.out _ _ ?_ (fun hNew => ?_)
                · ((try dsimp only); done)
                clear hK K hHeld
                have hHeld := hNew
                clear hNew
                (try simp only [Act.put, List.setIfInBounds_toArray, List.set_cons_zero, List.set_cons_succ])
                refine wpAnyH_done (by kernel_rfl) ?_ _
                refine NoPanic.normal ?_
                clear hHeld
                go_wp2_with fail
                go_meet
                exact ⟨e_HX, e_HT, e_HBl⟩
              exact AllReadyH.nil
            exact AllReadyH.nil
          exact AllReadyH.nil
        exact AllReadyH.nil
      exact AllReadyH.nil
    exact AllReadyH.nil
  case rest =>
    obtain ⟨f1, f2, f3⟩ := hcut
    clear HX HT HBl hc67 hc68 hf67 hf68 hc68b hf68b HC1 HC2 e_HX e_HT e_HBl
    have HX := f1
    have HT := f2
    have HBl := f3
    clear f1 f2 f3
    obtain ⟨w4, hw4⟩ : ∃ w4, w4 = wc := ⟨_, rfl⟩
    subst hw4
    go_wp2_with fail
    have hXl := HX.out.lt
    obtain ⟨B0, hB0⟩ : ∃ B0, B0 = w4.heap.size := ⟨_, rfl⟩
    have HB0 := Lib.hid hB0
    have hXB : X < B0 := by omega
    have HTl : Hid (ts.length = nt) := Lib.hid (by have := HT.out.rd.len; simpa using this)
    clear hXl hB0
    go_loopw [5, 6] (fun s5 s6 wr => ∃ (j : Nat) (Ai : Option Addr) (Ci : Nat), s5 = .slice Ai j Ci ∧ s6 = .int .i64 j ∧ j ≤ nt ∧ Hid (Below B0 w4 wr) ∧ Hid (wr.ownsRow B0 84 33 (.slice Ai j Ci) j (tdsV ((ts.take j).map wT)))) (fun _ s6 _ => nt - (intOf s6).toNat)
    case atStart => exact ⟨0, none, 0, rfl, rfl, Nat.zero_le _, Lib.hid (Below.refl B0 w4), Lib.hid (own_none_td w4 B0)⟩
    case round =>
      obtain ⟨j, Ai, Ci, rfl, rfl, hj, HBr, HOr⟩ := hrel
      have HXr := Lib.hid (World.rowIs.of_block HX.out (HBr.out.block X hXB))
      have HTr := Lib.hid (HT.out.below HBr.out (Nat.le_of_lt hXB))
      have HBlr := Lib.hid (HBl.out.trans (HBr.out.mono (Nat.le_of_lt hXB)))
      have hBs : B0 ≤ wr.heap.size := by have := HBr.out.size; have := HB0.out; omega
      have hc66 : wr.cell? ⟨X, 66, none⟩ = some (.slice At nt Ct) := (HXr.out.cell (i := 66) (by decide)).trans (by rw [sqV_td hol hcl])
      by_cases hlt : j < nt
      · have hd1 : (j : Int) < (nt : Int) := by omega
        have hd2 : decide ((j : Int) < (nt : Int)) = true := by simp; omega
        have hz0 : (0 : Int) ≤ (j : Int) := by omega
        obtain ⟨g, o, rfl, hgl, hcc⟩ := HTr.out.rd.cell (show 0 < nt by omega)
        obtain ⟨t, ht⟩ : ∃ t, t = ts.getD j default := ⟨_, rfl⟩
        have hrg := hcc j hlt
        rw [map_getD _ (by rw [HTl.out]; exact hlt), ← ht] at hrg
        have htm : t ∈ ts := by rw [ht]; exact getD_memI (by rw [HTl.out]; exact hlt)
        have hok := HTi.out t htm
        obtain ⟨dd, di⟩ := t
        have hil : di.length = 32 := hok.1.1
        have hr1 := rg_cons hrg
        have hcd : wr.drew.cell? ⟨g, o + j * 33, none⟩ = some (.int .i64 dd) := hr1.1
        have hci : wr.drew.rangeAt g (o + j * 33 + 1) (bv di) := hr1.2
        have hcx : wr.drew.cell? ⟨X, 66, none⟩ = some (.slice (some ⟨g, o, none⟩) nt Ct) := hc66
        have HC1 := Lib.hid (Wi.within_any dd 256 wr.drew (by omega) (by omega) hok.2.1 hok.2.2)
        obtain ⟨dv, hdv⟩ : ∃ dv : Int, dv = dd % 256 := ⟨_, rfl⟩
        rw [← hdv] at HC1
        have HSnoc : Hid ((ts.take (j + 1)).map wT = (ts.take j).map wT ++ [⟨dv, di⟩]) := Lib.hid (by
          rw [take_snocI ts j (by rw [HTl.out]; exact hlt), ← ht, List.map_append]
          show _ ++ [wT ⟨dd, di⟩] = _
          rw [wT, hdv])
        have HBu := Lib.hid (built_td2 dv di hil)
        have hTl : (Td.cells ⟨dv, di⟩).length = 33 := Td.len hil
        have HTll := Lib.hid hTl
        have HSz : Hid ((Try.prog.info? 37).map (·.size) = some (bv di).length) := Lib.hid (by rw [bv_len, hil]; exact infoId)
        have HTo := Lib.hid (Td.one ⟨dv, di⟩)
        have HNw := Lib.hid (new_cellsZ wr.drew (Td.cells ⟨dv, di⟩) 84)
        have HbA := Lib.hid ((Below.refl wr.drew.heap.size wr.drew).alloc (Nat.le_refl _) (.cells (Td.cells ⟨dv, di⟩).toArray 84))
        have HoA := Lib.hid (own_keep (World.ownsRow.drew HOr.out) HbA.out)
        have hgl2 : g < wr.drew.heap.size := Nat.lt_of_lt_of_le (Nat.lt_trans hgl hXB) hBs
        have hXl2 : X < wr.drew.heap.size := Nat.lt_of_lt_of_le hXB hBs
        have HBs2 : Hid (B0 ≤ (wr.drew.alloc (.cells (Td.cells ⟨dv, di⟩).toArray 84)).heap.size) := Lib.hid (Nat.le_trans hBs HbA.out.size)
        have HBr2 : Hid (Below B0 w4 (wr.drew.alloc (.cells (Td.cells ⟨dv, di⟩).toArray 84))) := Lib.hid (by
          have h1 := HBr.out
          have h2 : Below B0 w4 wr.drew := ⟨h1.os, h1.tape, h1.output, h1.size, h1.block⟩
          exact h2.trans (HbA.out.mono hBs))
        have hcx2 : (wr.alloc (.cells (Td.cells ⟨dv, di⟩).toArray 84)).drew.cell? ⟨X, 66, none⟩ = some (.slice (some ⟨g, o, none⟩) nt Ct) := (HbA.out.cell (p := ⟨X, 66, none⟩) hXl2).trans hcx
        have hcd2 : (wr.alloc (.cells (Td.cells ⟨dv, di⟩).toArray 84)).drew.cell? ⟨g, o + j * 33, none⟩ = some (.int .i64 dd) := (HbA.out.cell (p := ⟨g, o + j * 33, none⟩) hgl2).trans hcd
        have hci2 : (wr.alloc (.cells (Td.cells ⟨dv, di⟩).toArray 84)).drew.rangeAt g (o + j * 33 + 1) (bv di) := range_below HbA.out hci hgl2
        have hgB : g < B0 := Nat.lt_trans hgl hXB
        generalize hDY : Td.cells ⟨dv, di⟩ = DY at *
        have HDY := Lib.hid hDY
        clear hcc hrg htm hok hr1 hdv hTl hDY HXr HTr HBlr ht HOr hgl
        generalize hDI : bv di = DI at *
        clear hDI
        go_upto_region 11 with (fail)
        clear hc66
        refine wp_region_noPanic ?_
        refine wp_region_held_drew (S := (fun wS => wS.cell? ⟨X, 66, none⟩ = some (.slice (some ⟨g, o, none⟩) nt Ct) ∧ wS.cell? ⟨g, o + j * 33, none⟩ = some (.int .i64 dd) ∧ wS.rangeAt g (o + j * 33 + 1) DI)) (by kernel_rfl) ?_ (fun hHeld => ?_)
        · ((try dsimp only); exact ⟨hcx, hcd, hci⟩)
        refine wpAnyH_take (i := 0) (oi := { dst := some 44, op := Op.move (Operand.tmp 5), type := 63, pos := "outright.go:103", after := #[], guard := none }) (v := ?_) rfl (by kernel_rfl) (by kernel_rfl) (by kernel_rfl) (fun _ _ _ h => h) (Or.inl ⟨by rfl, ?_⟩) (by assumption) ?_
        rotate_left 1
        · ((intro w hSw; (try dsimp only at hSw); go_simp) <;> with_reducible rfl)
        (try simp only [Act.put, List.setIfInBounds_toArray, List.set_cons_zero, List.set_cons_succ])
        refine wpAnyH_take (i := 1) (oi := { dst := some 45, op := Op.fieldAddr 65 (Operand.tmp 2) 4, type := 0, pos := "outright.go:103", after := #[], guard := none }) (v := ?_) rfl (by kernel_rfl) (by kernel_rfl) (by kernel_rfl) (fun _ _ _ h => h) (Or.inl ⟨by rfl, ?_⟩) (by assumption) ?_
        rotate_left 1
        · ((intro w hSw; (try dsimp only at hSw); go_simp) <;> with_reducible rfl)
        (try simp only [Act.put, List.setIfInBounds_toArray, List.set_cons_zero, List.set_cons_succ])
        refine wpAnyH_take (i := 2) (oi := { dst := some 46, op := Op.load 63 (Operand.tmp 45), type := 63, pos := "outright.go:103", after := #[{ on := 1, ground := Ground.data }], guard := none }) (v := ?_) rfl (by kernel_rfl) (by kernel_rfl) (by kernel_rfl) (fun _ _ _ h => h) (Or.inl ⟨by rfl, ?_⟩) (by assumption) ?_
        rotate_left 1
        · ((intro w hSw; (try dsimp only at hSw); go_simp) <;> with_reducible rfl)
        (try simp only [Act.put, List.setIfInBounds_toArray, List.set_cons_zero, List.set_cons_succ])
        refine wpAnyH_take (i := 3) (oi := { dst := some 47, op := Op.move (Operand.tmp 6), type := 3, pos := "outright.go:103", after := #[], guard := none }) (v := ?_) rfl (by kernel_rfl) (by kernel_rfl) (by kernel_rfl) (fun _ _ _ h => h) (Or.inl ⟨by rfl, ?_⟩) (by assumption) ?_
        rotate_left 1
        · ((intro w hSw; (try dsimp only at hSw); go_simp) <;> with_reducible rfl)
        (try simp only [Act.put, List.setIfInBounds_toArray, List.set_cons_zero, List.set_cons_succ])
        refine wpAnyH_take (i := 4) (oi := { dst := some 48, op := Op.indexAddr 63 (Operand.tmp 46) (Operand.tmp 47), type := 0, pos := "outright.go:103", after := #[{ on := 2, ground := Ground.data }, { on := 3, ground := Ground.data }], guard := none }) (v := ?_) rfl (by kernel_rfl) (by kernel_rfl) (by kernel_rfl) (fun _ _ _ h => h) (Or.inl ⟨by rfl, ?_⟩) (by assumption) ?_
        rotate_left 1
        · ((intro w hSw; (try dsimp only at hSw); go_simp) <;> with_reducible rfl)
        (try simp only [Act.put, List.setIfInBounds_toArray, List.set_cons_zero, List.set_cons_succ])
        refine wpAnyH_take (i := 5) (oi := { dst := some 49, op := Op.fieldAddr 84 (Operand.tmp 48) 0, type := 0, pos := "outright.go:103", after := #[{ on := 4, ground := Ground.data }], guard := none }) (v := ?_) rfl (by kernel_rfl) (by kernel_rfl) (by kernel_rfl) (fun _ _ _ h => h) (Or.inl ⟨by rfl, ?_⟩) (by assumption) ?_
        rotate_left 1
        · ((intro w hSw; (try dsimp only at hSw); go_simp) <;> with_reducible rfl)
        (try simp only [Act.put, List.setIfInBounds_toArray, List.set_cons_zero, List.set_cons_succ])
        refine wpAnyH_take (i := 6) (oi := { dst := some 50, op := Op.load 3 (Operand.tmp 49), type := 3, pos := "outright.go:103", after := #[{ on := 5, ground := Ground.data }], guard := none }) (v := ?_) rfl (by kernel_rfl) (by kernel_rfl) (by kernel_rfl) (fun _ _ _ h => h) (Or.inl ⟨by rfl, ?_⟩) (by assumption) ?_
        rotate_left 1
        · ((intro w hSw; (try dsimp only at hSw); go_simp) <;> with_reducible rfl)
        (try simp only [Act.put, List.setIfInBounds_toArray, List.set_cons_zero, List.set_cons_succ])
        refine wpAnyH_take (i := 8) (oi := { dst := some 52, op := Op.fieldAddr 65 (Operand.tmp 2) 4, type := 0, pos := "outright.go:103", after := #[], guard := none }) (v := ?_) rfl (by kernel_rfl) (by kernel_rfl) (by kernel_rfl) (fun _ _ _ h => h) (Or.inl ⟨by rfl, ?_⟩) (by assumption) ?_
        rotate_left 1
        · ((intro w hSw; (try dsimp only at hSw); go_simp) <;> with_reducible rfl)
        (try simp only [Act.put, List.setIfInBounds_toArray, List.set_cons_zero, List.set_cons_succ])
        refine wpAnyH_take (i := 9) (oi := { dst := some 53, op := Op.load 63 (Operand.tmp 52), type := 63, pos := "outright.go:103", after := #[{ on := 8, ground := Ground.data }], guard := none }) (v := ?_) rfl (by kernel_rfl) (by kernel_rfl) (by kernel_rfl) (fun _ _ _ h => h) (Or.inl ⟨by rfl, ?_⟩) (by assumption) ?_
        rotate_left 1
        · ((intro w hSw; (try dsimp only at hSw); go_simp) <;> with_reducible rfl)
        (try simp only [Act.put, List.setIfInBounds_toArray, List.set_cons_zero, List.set_cons_succ])
        refine wpAnyH_take (i := 10) (oi := { dst := some 54, op := Op.move (Operand.tmp 6), type := 3, pos := "outright.go:103", after := #[], guard := none }) (v := ?_) rfl (by kernel_rfl) (by kernel_rfl) (by kernel_rfl) (fun _ _ _ h => h) (Or.inl ⟨by rfl, ?_⟩) (by assumption) ?_
        rotate_left 1
        · ((intro w hSw; (try dsimp only at hSw); go_simp) <;> with_reducible rfl)
        (try simp only [Act.put, List.setIfInBounds_toArray, List.set_cons_zero, List.set_cons_succ])
        refine wpAnyH_take (i := 11) (oi := { dst := some 55, op := Op.indexAddr 63 (Operand.tmp 53) (Operand.tmp 54), type := 0, pos := "outright.go:103", after := #[{ on := 9, ground := Ground.data }, { on := 10, ground := Ground.data }], guard := none }) (v := ?_) rfl (by kernel_rfl) (by kernel_rfl) (by kernel_rfl) (fun _ _ _ h => h) (Or.inl ⟨by rfl, ?_⟩) (by assumption) ?_
        rotate_left 1
        · ((intro w hSw; (try dsimp only at hSw); go_simp) <;> with_reducible rfl)
        (try simp only [Act.put, List.setIfInBounds_toArray, List.set_cons_zero, List.set_cons_succ])
        refine wpAnyH_take (i := 12) (oi := { dst := some 56, op := Op.fieldAddr 84 (Operand.tmp 55) 1, type := 0, pos := "outright.go:103", after := #[{ on := 11, ground := Ground.data }], guard := none }) (v := ?_) rfl (by kernel_rfl) (by kernel_rfl) (by kernel_rfl) (fun _ _ _ h => h) (Or.inl ⟨by rfl, ?_⟩) (by assumption) ?_
        rotate_left 1
        · ((intro w hSw; (try dsimp only at hSw); go_simp) <;> with_reducible rfl)
        (try simp only [Act.put, List.setIfInBounds_toArray, List.set_cons_zero, List.set_cons_succ])
        refine' wpAnyH_take (i := 13) (oi := { dst := some 57, op := Op.load 37 (Operand.tmp 56), type := 37, pos := "outright.go:103", after := #[{ on := 12, ground := Ground.data }], guard := none }) (v := _) rfl (by kernel_rfl) (by kernel_rfl) (by kernel_rfl) (fun _ _ _ h => h) (yieldsIf_load_mid (by rfl) _ _ rfl _ _ rfl DI _ (fun w hSw => hSw.2.2) Try.underlying37 rfl HSz.out) (by assumption) ?_
        (try simp only [Act.put, List.setIfInBounds_toArray, List.set_cons_zero, List.set_cons_succ])
        refine wpAnyH_ready (rs := [7]) (by kernel_rfl) (by simp) ?_
        refine AllReadyH.cons (o := { dst := some 51, op := Op.call { callee := Callee.value (Operand.func 39), args := #[Operand.tmp 50, Operand.const (Value.int IntKind.i64 256)], argTypes := #[3, 3] }, type := 3, pos := "outright.go:103", after := #[{ on := 6, ground := Ground.data }], guard := none }) rfl (fun K hK => ?_) ?_
        · go_simp
          refine HC1.out.mono ?_
          rintro e wB ⟨rfl, rfl⟩
          (try go_wp2_with fail)
          refine hK.out _ _ ?_ (fun hNew => ?_)
          · ((try dsimp only); first | assumption | exact ⟨hcx, hcd, hci⟩ | exact ⟨hcx2, hcd2, hci2⟩ | exact ⟨hcx3, hcd3, hci3⟩)
          clear hK K hHeld
          have hHeld := hNew
          clear hNew
          (try simp only [Act.put, List.setIfInBounds_toArray, List.set_cons_zero, List.set_cons_succ])
          refine wpAnyH_ready (rs := [14]) (by kernel_rfl) (by simp) ?_
          refine AllReadyH.cons (o := { dst := some 58, op := Op.build 84 #[(0, Operand.tmp 51), (1, Operand.tmp 57)], type := 84, pos := "outright.go:103", after := #[{ on := 7, ground := Ground.data }, { on := 13, ground := Ground.data }], guard := none }) rfl (fun K hK => ?_) ?_
          · refine step_buildT2 _ rfl 84 0 1 _ _ rfl _ _ rfl rfl DY.toArray HBu.out ?_
            (try go_wp2_with fail)
            refine hK.out _ _ ?_ (fun hNew => ?_)
            · ((try dsimp only); first | assumption | exact ⟨hcx, hcd, hci⟩ | exact ⟨hcx2, hcd2, hci2⟩ | exact ⟨hcx3, hcd3, hci3⟩)
            clear hK K hHeld
            have hHeld := hNew
            clear hNew
            (try simp only [Act.put, List.setIfInBounds_toArray, List.set_cons_zero, List.set_cons_succ])
            refine wpAnyH_ready (rs := [15]) (by kernel_rfl) (by simp) ?_
            refine AllReadyH.cons (o := { dst := some 59, op := Op.buildSlice 63 1 #[(0, Operand.tmp 58)], type := 63, pos := "outright.go:103", after := #[{ on := 14, ground := Ground.data }], guard := none }) rfl (fun K hK => ?_) ?_
            · refine step_build_z rowTd _ rfl _ rfl DY rfl HTll.out ?_
              (try go_wp2_with fail)
              refine hK.out _ _ ?_ (fun hNew => ?_)
              · ((try dsimp only); first | assumption | exact ⟨hcx, hcd, hci⟩ | exact ⟨hcx2, hcd2, hci2⟩ | exact ⟨hcx3, hcd3, hci3⟩)
              clear hK K hHeld
              have hHeld := hNew
              clear hNew
              (try simp only [Act.put, List.setIfInBounds_toArray, List.set_cons_zero, List.set_cons_succ])
              refine wpAnyH_ready (rs := [16]) (by kernel_rfl) (by simp) ?_
              refine AllReadyH.cons (o := { dst := some 60, op := Op.call { callee := Callee.builtin Builtin.append, args := #[Operand.tmp 44, Operand.tmp 59], argTypes := #[63, 63] }, type := 63, pos := "outright.go:103", after := #[{ on := 0, ground := Ground.data }, { on := 15, ground := Ground.data }, { on := 7, ground := Ground.chain }], guard := none }) rfl (fun K hK => ?_) ?_
              · refine step_append_z rowTd _ rfl _ _ rfl B0 _ j (tdsV ((ts.take j).map wT)) rfl HoA.out _ DY rfl HNw.out HTll.out HTo.out (by omega) HBs2.out ?_
                intro A9 C9 w13 hoE hgE
                have hBz := HBr2.out.grown hgE HBs2.out (fun k hk => (HoA.out.lt k hk).1)
                have hbE : Below B0 (wr.drew.alloc (.cells DY.toArray 84)) w13 := (Below.refl B0 _).grown hgE HBs2.out (fun k hk => (HoA.out.lt k hk).1)
                have hcx3 : w13.cell? ⟨X, 66, none⟩ = some (.slice (some ⟨g, o, none⟩) nt Ct) := (hbE.cell (p := ⟨X, 66, none⟩) hXB).trans hcx2
                have hcd3 : w13.cell? ⟨g, o + j * 33, none⟩ = some (.int .i64 dd) := (hbE.cell (p := ⟨g, o + j * 33, none⟩) hgB).trans hcd2
                have hci3 : w13.rangeAt g (o + j * 33 + 1) DI := range_below hbE hci2 hgB
                rw [← HDY.out, ← tdsV_snoc, ← HSnoc.out] at hoE
                have HBz := Lib.hid hBz
                have HOz := Lib.hid hoE
                clear hBz hoE hgE hbE
                (try go_wp2_with fail)
                refine hK.out _ _ ?_ (fun hNew => ?_)
                · ((try dsimp only); first | assumption | exact ⟨hcx, hcd, hci⟩ | exact ⟨hcx2, hcd2, hci2⟩ | exact ⟨hcx3, hcd3, hci3⟩)
                clear hK K hHeld
                have hHeld := hNew
                clear hNew
                (try simp only [Act.put, List.setIfInBounds_toArray, List.set_cons_zero, List.set_cons_succ])
                refine wpAnyH_take (i := 17) (oi := { dst := some 5, op := Op.assign (Operand.tmp 60), type := 63, pos := "outright.go:103", after := #[{ on := 16, ground := Ground.data }, { on := 16, ground := Ground.chain }, { on := 0, ground := Ground.phase }, { on := 1, ground := Ground.phase }, { on := 2, ground := Ground.phase }, { on := 3, ground := Ground.phase }, { on := 4, ground := Ground.phase }, { on := 5, ground := Ground.phase }, { on := 6, ground := Ground.phase }, { on := 7, ground := Ground.phase }, { on := 8, ground := Ground.phase }, { on := 9, ground := Ground.phase }, { on := 10, ground := Ground.phase }, { on := 11, ground := Ground.phase }, { on := 12, ground := Ground.phase }, { on := 13, ground := Ground.phase }, { on := 14, ground := Ground.phase }, { on := 15, ground := Ground.phase }, { on := 16, ground := Ground.phase }], guard := none }) (v := ?_) rfl (by kernel_rfl) (by kernel_rfl) (by kernel_rfl) (fun _ _ _ h => h) (Or.inl ⟨by rfl, ?_⟩) (by assumption) ?_
                rotate_left 1
                · ((intro w hSw; (try dsimp only at hSw); go_simp) <;> with_reducible rfl)
                (try simp only [Act.put, List.setIfInBounds_toArray, List.set_cons_zero, List.set_cons_succ])
                refine wpAnyH_done (by kernel_rfl) ?_ _
                refine NoPanic.normal ?_
                clear hHeld HC1 HBu HTll HSz HTo HNw HbA HoA HBs2 HBr2 hcd hci hcx hcd2 hci2 hcx2 hcd3 hci3 hcx3
                go_wp2_with fail
                go_roundw
                case rel => exact ⟨j + 1, A9, C9, rfl, by go_num, by omega, HBz, HOz⟩
                case measure => simp [intOf]; omega
              exact AllReadyH.nil
            exact AllReadyH.nil
          exact AllReadyH.nil
        exact AllReadyH.nil
      · have hd1 : ¬ (j : Int) < (nt : Int) := by omega
        have hd2 : decide ((j : Int) < (nt : Int)) = false := by simp; omega
        obtain rfl : j = nt := by omega
        have hf66 : wr.frozen? ⟨X, 66, none⟩ = false := HXr.out.frozen _
        go_upto_region 13 with (fail)
        clear hlt hd1 hd2 hc66 hf66 HX HT HBl HTr HBr
        obtain ⟨tz, htz⟩ : ∃ tz, tz = (ts.take j).map wT := ⟨_, rfl⟩
        rw [← htz] at HOr
        have hzl : tz.length = j := by rw [htz, List.length_map, List.length_take, HTl.out]; omega
        have hzi : ∀ x ∈ tz, IdOk x.id ∧ 0 ≤ x.dd ∧ x.dd ≤ 255 := by
          rw [htz]
          intro x hx
          obtain ⟨y, hy, rfl⟩ := List.mem_map.1 hx
          have := HTi.out y (List.mem_of_mem_take hy)
          refine ⟨this.1, ?_, ?_⟩
          · show 0 ≤ y.dd % 256; omega
          · show y.dd % 256 ≤ 255; omega
        have HZi := Lib.hid hzi
        have hX5 := row_setL HXr.out (sqV_len hol hcl) 66 (.slice Ai j Ci)
        rw [(sqV_set hol hcl).2.1] at hX5
        have HX := Lib.hid hX5
        have HBl := Lib.hid (HBlr.out.setCell (p := ⟨X, 66, none⟩) (Nat.le_refl X) (.slice Ai j Ci))
        have HOw := Lib.hid (own_grown HOr.out (grown_set wr X 66 (.slice Ai j Ci)) (fun e => by have := (HOr.out.lt X e).1; omega))
        clear HXr HBlr HOr hX5 htz hzi HTi
        generalize wr.setCell ⟨X, 66, none⟩ (.slice Ai j Ci) = w5 at *
        have hXT := HX.out.lt
        obtain ⟨DS, hDS⟩ : ∃ DS, DS = sqV K1 br og cu (.slice Ai j Ci) D1 M1 st := ⟨_, rfl⟩
        have hql : DS.length = 70 := by rw [hDS]; exact sqV_len hol hcl
        have HRg : Hid (w5.rangeAt X 0 DS) := Lib.hid (row_range (by rw [hDS]; exact HX.out) hql)
        have HSz1 : Hid ((Try.prog.info? 65).map (·.size) = some DS.length) := Lib.hid (by rw [hql]; exact infoSq)
        have hbu := built_tx K1 br (.slice Ai j Ci) D1 M1 st cu hcl og hol
        have hV := (sQT_V (k := K1) (br := br) (og := og) (cu := cu) (At := Ai) (nt := j) (Ct := Ci) (ts := tz) (dn := D1) (md := M1) (st := st) (A := none) (C := 0) (Am := none) (Cm := 0))
        rw [← hV, ← hDS] at hbu
        have hTk : RdT w5.heap.size w5 Ai j Ci tz := ⟨RdS.of_own (by have := HOw.out; unfold tdsV at this; rwa [flatMap_flat] at this) (fun x hx => by
          obtain ⟨y, hy, rfl⟩ := List.mem_map.1 hx
          exact Td.len (HZi.out y hy).1.1) (by rw [List.length_map]; exact hzl), fun t ht => (HZi.out t ht).1.1⟩
        obtain ⟨T, hT⟩ : ∃ T, T = sQT K1 br og cu Ai j Ci tz D1 M1 st none 0 none 0 := ⟨_, rfl⟩
        rw [← hT] at hbu
        have hTr : T.Now w5 := by rw [hT]; exact sQT_rd HO.out HC0.out (by decide) (by decide) hTk (fun x hx => (HZi.out x hx).1) (by omega) (by omega)
        have hTe : txE T.D = 0 := by rw [hT]; exact sQT_ok hKb (by omega) hDb hMb (by omega) (fun x hx => (HZi.out x hx).2)
        have hTV := TxS.Now.len hTr
        obtain ⟨f1, f2⟩ := tx_lay w5 T.V hTV T.V_one ZT HZt.out
        have HRw : Hid (((w5.alloc (.cells ZT 68)).setCells w5.heap.size 0 T.V).rowIs w5.heap.size 68 75 (fun i => T.V.getD i undef)) := Lib.hid (row_of_stored f1.stored hTV)
        have HSz2 : Hid ((Try.prog.info? 68).map (·.size) = some T.V.length) := Lib.hid (by rw [hTV]; exact infoTx)
        have HBu := Lib.hid hbu
        have HFx := Lib.hid f1
        have HTn := Lib.hid hTr
        have HTe := Lib.hid hTe
        have HTT := Lib.hid hT
        have HTV := Lib.hid hTV
        have HDS := Lib.hid hDS
        clear f1 f2 hTr hTe hTV hbu hV hTk hT hDS hql
        obtain ⟨DT, hDT⟩ : ∃ DT, DT = T.V := ⟨_, rfl⟩
        rw [← hDT] at HRw HSz2 HFx HBu HTV
        have HDT := Lib.hid hDT
        clear hDT
        go_upto_region 14 with (first
          | (refine wpList_load_mid rfl _ _ rfl X 0 rfl DS _ HRg.out Try.underlying65 rfl HSz1.out ?_)
          | (refine wpList_buildT2 rfl 68 3 4 _ _ rfl _ _ rfl rfl DT.toArray HBu.out ?_)
          | (refine wpList_store_mid rfl _ _ _ rfl w5.heap.size 0 DT.toArray rfl rfl HFx.out.there HFx.out.size HFx.out.one ?_))
        change Code.wp _ _ _ _ ((w5.alloc (.cells ZT 68)).setCells w5.heap.size 0 DT)
        have hb := HFx.out.bel
        clear HFx HBu HRg HSz1
        generalize (w5.alloc (.cells ZT 68)).setCells w5.heap.size 0 DT = w6 at *
        have HTg : Hid (T.Rd w5.heap.size w6) := Lib.hid (TxS.Rd.below HTn.out hb (Nat.le_refl _))
        clear HTn
        have e_HBl := Lib.hid (HBl.out.trans (hb.mono (Nat.le_of_lt HX.out.lt)))
        have e_HX := Lib.hid (World.rowIs.of_block HX.out (hb.block _ HX.out.lt))
        have e_HOw := Lib.hid (own_keep HOw.out hb)
        clear HBl HX HOw
        have HBl := e_HBl
        have HX := e_HX
        have HOw := e_HOw
        clear e_HBl e_HX e_HOw
        have hP5 := HRw.out.lt
        generalize w5.heap.size = PT at *
        clear hb HOw
        have HPT := Lib.hid (row_range HRw.out HTV.out)
        have HC := Lib.hid (TxS.encode HTg.out (Nat.le_of_lt hP5))
        go_wp2_with (refine wpList_load_mid rfl _ _ rfl PT 0 rfl DT _ HPT.out Try.underlying68 rfl HSz2.out ?_)
        refine (show Calls Try.prog 29 #[.agg DT.toArray] w6 (TxRet T.D w6) by rw [HDT.out]; exact HC.out).mono ?_
        intro e w10 hr
        obtain ⟨hb, Ax, nx, Cx, rfl, ho⟩ := hr.flat
        have HB := Lib.hid ho
        clear HC hr ho HPT hP5
        have e_HBl := Lib.hid (HBl.out.trans (hb.mono (Nat.le_of_lt HX.out.lt)))
        have e_HX := Lib.hid (World.rowIs.of_block HX.out (hb.block _ HX.out.lt))
        have e_HRw := Lib.hid (World.rowIs.of_block HRw.out (hb.block _ HRw.out.lt))
        have e_HTg := Lib.hid (TxS.Rd.below HTg.out hb (Nat.le_of_lt HRw.out.lt))
        clear HBl HX HRw HTg
        have HBl := e_HBl
        have HX := e_HX
        have HRw := e_HRw
        have HTg := e_HTg
        clear e_HBl e_HX e_HRw e_HTg
        clear hb
        have hTB := HRw.out.lt
        have hz0 := HTe.out
        have heR : txBb T.D = txB T.D := by unfold txBb; rw [if_pos hz0]
        rw [heR] at HB
        rw [hz0]
        have hby := txB_by HTg.out hz0
        obtain ⟨r1, r2⟩ := tx_back ⟨_, _, HTg.out⟩ hz0
        have hnx : (txB T.D).length = nx := by have := HB.out.1; simpa [bv] using this
        have hle : nx ≤ 100000000 := by
          rw [← hnx]
          refine txB_le HTg.out ?_ hz0
          rw [HTT.out]
          exact ⟨by show (0 : Nat) < 100; decide, by show (0 : Nat) < 100; decide, by show ByteArray.empty.size + br.size + 33 * j < 80000; simp; omega, fun x hx => absurd hx (by simp [sQT]), fun x hx => absurd hx (by simp [sQT])⟩
        rw [hnx] at r1 r2
        have HBk := Lib.hid (And.intro r1 r2)
        have hrd := RdB.of_own2 HB.out (by omega) (hby.getD (by omega))
        have HC := Lib.hid (parseTx_any Ax nx Cx (txB T.D) w10 hrd)
        have HGd := Lib.hid (hby.getD (n := nx) (by omega))
        have HNx := Lib.hid hnx
        clear hz0 heR hby r1 r2 hrd hnx HB
        go_wp2_with fail
        refine HC.out.mono ?_
        intro e w11 hr
        obtain ⟨hb, P, rfl, hPo, hPr, hPp⟩ := hr.flat HNx.out HGd.out (by omega)
        rw [HBk.out.1]
        rw [HBk.out.2, HTT.out] at hPp
        have hpl : P.pl = ⟨false, akH false ByteArray.empty, [], true, ⟨K1, br, og, cu, tz, D1, M1, st⟩, []⟩ := hPp.trans (by
          have e : (sQT K1 br og cu Ai j Ci tz D1 M1 st none 0 none 0).D.sq.ask true = ⟨K1, br, og, cu, tz, D1, M1, st⟩ := by
            unfold SqD.ask
            rw [if_pos ⟨rfl, by show K1 ≠ 0; omega⟩]
            rfl
          have e2 : (sQT K1 br og cu Ai j Ci tz D1 M1 st none 0 none 0).D.hs = true := rfl
          rw [e2, e]
          rfl)
        obtain ⟨pAt, pCt, pA, pC, pAm, pCm, hP⟩ := sQT_of hpl hPo.1 hPo.2.1 hPo.2.2.1
        have hPown : w11.ownsRow w10.heap.size 84 33 (.slice pAt j pCt) j (tdsV tz) := by
          have h := hPo.2.2.2.t
          rw [hP] at h
          have h2 : w11.ownsRow w10.heap.size 84 33 (.slice pAt tz.length pCt) tz.length (tdsV tz) := h
          rwa [hzl] at h2
        rw [hzl] at hP
        have HPo := Lib.hid hPown
        have HM : Hid (P.Rd w11.heap.size w11) := Lib.hid hPr
        have HP := Lib.hid hP
        have hTl6 := Nat.le_of_lt HRw.out.lt
        clear HC hr hPo hPr hPp hpl hP hPown HBk HGd HNx HTe hle
        have e_HBl := Lib.hid (HBl.out.trans (hb.mono (Nat.le_of_lt HX.out.lt)))
        have e_HX := Lib.hid (World.rowIs.of_block HX.out (hb.block _ HX.out.lt))
        have e_HRw := Lib.hid (World.rowIs.of_block HRw.out (hb.block _ HRw.out.lt))
        have e_HTg := Lib.hid (TxS.Rd.below HTg.out hb (Nat.le_of_lt HRw.out.lt))
        clear HBl HX HRw HTg
        have HBl := e_HBl
        have HX := e_HX
        have HRw := e_HRw
        have HTg := e_HTg
        clear e_HBl e_HX e_HRw e_HTg
        have hTB2 : PT < w10.heap.size := hTB
        have HTh : Hid (T.Rd w10.heap.size w11) := Lib.hid (TxS.Rd.up HTg.out hTl6)
        have h1011 : w10.heap.size ≤ w11.heap.size := hb.size
        clear hb HTg hTl6 hTB
        generalize w10.heap.size = PB at *
        have hlp := TxS.Now.len HM.out
        obtain ⟨f1, f2⟩ := tx_lay w11 P.V hlp P.V_one ZT HZt.out
        have HRu : Hid (((w11.alloc (.cells ZT 68)).setCells w11.heap.size 0 P.V).rowIs w11.heap.size 68 75 (fun i => P.V.getD i undef)) := Lib.hid (row_of_stored f1.stored hlp)
        have HFx := Lib.hid f1
        have HSz3 : Hid ((Try.prog.info? 68).map (·.size) = some P.V.length) := Lib.hid (by rw [hlp]; exact infoTx)
        have HLn := Lib.hid hlp
        clear f1 f2 hlp
        obtain ⟨DP, hDP⟩ : ∃ DP, DP = P.V := ⟨_, rfl⟩
        rw [← hDP] at HRu HSz3 HFx HLn ⊢
        have HDP := Lib.hid hDP
        clear hDP
        go_upto_region 16 with (refine wpList_store_mid rfl _ _ _ rfl w11.heap.size 0 DP.toArray rfl rfl HFx.out.there HFx.out.size HFx.out.one ?_)
        change Code.wp _ _ _ _ ((w11.alloc (.cells ZT 68)).setCells w11.heap.size 0 DP)
        have hb := HFx.out.bel
        clear HFx
        generalize (w11.alloc (.cells ZT 68)).setCells w11.heap.size 0 DP = w12 at *
        have e_HBl := Lib.hid (HBl.out.trans (hb.mono (Nat.le_of_lt HX.out.lt)))
        have e_HX := Lib.hid (World.rowIs.of_block HX.out (hb.block _ HX.out.lt))
        have e_HRw := Lib.hid (World.rowIs.of_block HRw.out (hb.block _ HRw.out.lt))
        have e_HTh := Lib.hid (TxS.Rd.below HTh.out hb (h1011))
        have e_HM := Lib.hid (TxS.Rd.below HM.out hb (Nat.le_refl _))
        have e_HPo := Lib.hid (own_keep HPo.out hb)
        clear HBl HX HRw HTh HM HPo
        have HBl := e_HBl
        have HX := e_HX
        have HRw := e_HRw
        have HTh := e_HTh
        have HM := e_HM
        have HPo := e_HPo
        clear e_HBl e_HX e_HRw e_HTh e_HM e_HPo
        clear hb
        have hPB : PB < w12.heap.size := Nat.lt_of_le_of_lt h1011 HRu.out.lt
        have hPNl := HRu.out.lt
        generalize w11.heap.size = PN at *
        have HPT := Lib.hid (row_range HRw.out HTV.out)
        have HPU := Lib.hid (row_range HRu.out HLn.out)
        have HC := Lib.hid (TxS.same (G := w12.heap.size) (TxS.Rd.up HTh.out (Nat.le_of_lt hPB)) (TxS.Rd.up HM.out (Nat.le_of_lt hPNl)) (Nat.le_refl _))
        have hsx : sxEq T.D P.D = true := by
          rw [HTT.out, HP.out, sQT_eq (by omega) (by omega)]
          exact sqEq_refl _
        rw [hsx, ← HDT.out, ← HDP.out] at HC
        clear hsx
        go_wp2_with (first
          | (refine wpList_load_g (by rfl) _ _ rfl PT 0 rfl DT _ HPT.out Try.underlying68 rfl HSz2.out ?_)
          | (refine wpList_load_g (by rfl) _ _ rfl PN 0 rfl DP _ HPU.out Try.underlying68 rfl HSz3.out ?_))
        refine HC.out.mono ?_
        rintro e w13 ⟨rfl, hb⟩
        clear HC HPT HPU
        have e_HBl := Lib.hid (HBl.out.trans (hb.mono (Nat.le_of_lt HX.out.lt)))
        have e_HX := Lib.hid (World.rowIs.of_block HX.out (hb.block _ HX.out.lt))
        have e_HRw := Lib.hid (World.rowIs.of_block HRw.out (hb.block _ HRw.out.lt))
        have e_HTh := Lib.hid (TxS.Rd.below HTh.out hb (Nat.le_of_lt hPB))
        have e_HM := Lib.hid (TxS.Rd.below HM.out hb (Nat.le_of_lt hPNl))
        have e_HPo := Lib.hid (own_keep HPo.out hb)
        have e_HRu := Lib.hid (World.rowIs.of_block HRu.out (hb.block _ HRu.out.lt))
        clear HBl HX HRw HTh HM HPo HRu
        have HBl := e_HBl
        have HX := e_HX
        have HRw := e_HRw
        have HTh := e_HTh
        have HM := e_HM
        have HPo := e_HPo
        have HRu := e_HRu
        clear e_HBl e_HX e_HRw e_HTh e_HM e_HPo e_HRu
        have hPB2 := Nat.lt_of_lt_of_le hPB hb.size
        have hPN2 := Nat.lt_of_lt_of_le hPNl hb.size
        clear hb hPB hPNl
        have hDP : DP = txV false ByteArray.empty (.slice pA 0 pC) true (sqV K1 br og cu (.slice pAt j pCt) D1 M1 st) (.slice pAm 0 pCm) := HDP.out.trans (by rw [HP.out]; rfl)
        rw [hDP] at HRu
        have hsl : (sqV K1 br og cu (.slice pAt j pCt) D1 M1 st).length = 70 := sqV_len hol hcl
        have hta := tx_at hsl (row_range HRu.out (txV_len hsl))
        have hsa := sq_at hol hcl hta.sq
        have hsx := sq_at hol hcl (row_range HX.out (sqV_len hol hcl))
        have hp71 : w13.cell? ⟨PN, 71, none⟩ = some (.int .i64 D1) := hsa.dn
        have hp72 : w13.cell? ⟨PN, 72, none⟩ = some (.int .i64 M1) := hsa.md
        have hp73 : w13.cell? ⟨PN, 73, none⟩ = some (.bool st) := hsa.st
        have hp70 : w13.cell? ⟨PN, 70, none⟩ = some (.slice pAt j pCt) := hsa.td
        have hs67 : w13.cell? ⟨X, 67, none⟩ = some (.int .i64 D1) := by have := hsx.dn; simpa using this
        have hs68 : w13.cell? ⟨X, 68, none⟩ = some (.int .i64 M1) := by have := hsx.md; simpa using this
        have hs69 : w13.cell? ⟨X, 69, none⟩ = some (.bool st) := by have := hsx.st; simpa using this
        have HQ1 : Hid (w13.rangeAt PN 38 (bv cu)) := Lib.hid hsa.cu
        have HQ2 : Hid (w13.rangeAt X 34 (bv cu)) := Lib.hid (by have := hsx.cu; simpa using this)
        have hid2 := fun W => ids_eq cu cu hcl hcl W
        have HSi : Hid ((Try.prog.info? 37).map (·.size) = some (bv cu).length) := Lib.hid (by rw [bv_len, hcl]; exact infoId)
        clear hta hsa hsx hsl hDP
        generalize hDC : bv cu = DC at *
        clear hDC
        go_upto_region 18 with (first
          | (refine wpList_load_g (by rfl) _ _ rfl PN 38 rfl DC _ HQ1.out Try.underlying37 rfl HSi.out ?_)
          | (refine wpList_load_g (by rfl) _ _ rfl X 34 rfl DC _ HQ2.out Try.underlying37 rfl HSi.out ?_))
        clear HQ1 HQ2 hid2 HSi hp71 hp72 hp73 hp70 hs67 hs68 hs69
        have HC := Lib.hid (Wi.within_any fi 5 w13 (by omega) (by omega) hfi.1 hfi.2)
        obtain ⟨fv, hfv⟩ : ∃ fv : Int, fv = fi % 5 := ⟨_, rfl⟩
        rw [← hfv] at HC
        have hfb : fv = 0 ∨ fv = 1 ∨ fv = 2 ∨ fv = 3 ∨ fv = 4 := by omega
        go_wp2_with fail
        refine HC.out.mono ?_
        rintro e w' ⟨rfl, rfl⟩
        clear HC hfi hfv
        have hsl : (sqV K1 br og cu (.slice pAt j pCt) D1 M1 st).length = 70 := sqV_len hol hcl
        have hta := tx_at hsl (row_range HRu.out (txV_len hsl))
        have hsa := sq_at hol hcl hta.sq
        have HMc := Lib.hid (And.intro (HM.out.hM.rd.max) (HM.out.hY.rd.max))
        rw [HP.out] at HM HMc
        clear hta
        have hXN : X < PN := by omega
        have hTN : PT < PN := by omega
        have hXPB : X ≤ PB := by omega
        have hXN2 : X < w13.heap.size := HX.out.lt
        have hTN2 : PT < w13.heap.size := HRw.out.lt
        rcases hfb with rfl | rfl | rfl | rfl | rfl
        · have hcN : w13.cell? ⟨PN, 71, none⟩ = some (.int .i64 D1) := hsa.dn
          have hfN : w13.frozen? ⟨PN, 71, none⟩ = false := HRu.out.frozen _
          clear hsa
          go_upto_region 29 with (fail)
          clear hcN hfN
          have hRu := row_setL HRu.out (txV_len hsl) 71 (.int .i64 (bits .xor .i64 D1 1))
          rw [show (71 : Nat) = 4 + 67 from rfl, txV_sq hsl 67 (by decide), (sqV_set hol hcl).2.2.1] at hRu
          have hgN := grown_set w13 PN 71 (.int .i64 (bits .xor .i64 D1 1))
          have hbN : Below PB w13 (w13.setCell ⟨PN, 71, none⟩ (.int .i64 (bits .xor .i64 D1 1))) := (Below.refl PB w13).setCell (p := ⟨PN, 71, none⟩) h1011 (.int .i64 (bits .xor .i64 D1 1))
          have hbM : Below PN w13 (w13.setCell ⟨PN, 71, none⟩ (.int .i64 (bits .xor .i64 D1 1))) := (Below.refl PN w13).setCell (p := ⟨PN, 71, none⟩) (Nat.le_refl _) (.int .i64 (bits .xor .i64 D1 1))
          have e_HTh := Lib.hid (TxS.Rd.belowG HTh.out hbN (Nat.le_of_lt hPB2) (Nat.le_refl _))
          have e_HM := Lib.hid (TxS.Rd.belowG HM.out hbM (Nat.le_of_lt hPN2) (Nat.le_refl _))
          have e_HBl := Lib.hid (HBl.out.trans (hbM.mono (Nat.le_of_lt hXN)))
          have e_HX := Lib.hid (World.rowIs.of_block HX.out (hbM.block X hXN))
          have e_HRw := Lib.hid (World.rowIs.of_block HRw.out (hbM.block PT hTN))
          have hPB3 : PB < (w13.setCell ⟨PN, 71, none⟩ (.int .i64 (bits .xor .i64 D1 1))).heap.size := Nat.lt_of_lt_of_le hPB2 hbM.size
          have hPN3 : PN < (w13.setCell ⟨PN, 71, none⟩ (.int .i64 (bits .xor .i64 D1 1))).heap.size := Nat.lt_of_lt_of_le hPN2 hbM.size
          clear HTh HM HBl HX HRw HRu HPo hgN hbN hbM
          have HTh := e_HTh
          have HM := e_HM
          have HBl := e_HBl
          have HX := e_HX
          have HRw := e_HRw
          have HRu := Lib.hid hRu
          clear e_HTh e_HM e_HBl e_HX e_HRw hRu
          generalize w13.setCell ⟨PN, 71, none⟩ (.int .i64 (bits .xor .i64 D1 1)) = wV at *
          have hQr : (sQT K1 br og cu pAt j pCt tz (bits .xor .i64 D1 1) M1 st pA pC pAm pCm).Rd wV.heap.size wV := sQT_rd HO.out HC0.out HMc.out.1 HMc.out.2 (TxS.Rd.up HM.out (Nat.le_of_lt hPN3)).hT (fun x hx => (HZi.out x hx).1) (by omega) (by first | omega | (have := hbq; omega))
          have hlq : (txV false ByteArray.empty (.slice pA 0 pC) true (sqV K1 br og cu (.slice pAt j pCt) (bits .xor .i64 D1 1) M1 st) (.slice pAm 0 pCm)).length = 75 := txV_len (sqV_len HO.out.1 hcl)
          have hne : sxEq T.D (sQT K1 br og cu pAt j pCt tz (bits .xor .i64 D1 1) M1 st pA pC pAm pCm).D = false := by
            rw [HTT.out, sQT_eq (by omega) (by omega)]
            exact ne_dn (xor1_ne D1 hDb.1 hDb.2)
          generalize hDQ : txV false ByteArray.empty (.slice pA 0 pC) true (sqV K1 br og cu (.slice pAt j pCt) (bits .xor .i64 D1 1) M1 st) (.slice pAm 0 pCm) = DQ at *
          have HPT := Lib.hid (row_range HRw.out HTV.out)
          have HPU := Lib.hid (row_range HRu.out hlq)
          have HSz4 : Hid ((Try.prog.info? 68).map (·.size) = some DQ.length) := Lib.hid (by rw [hlq]; exact infoTx)
          have HC := Lib.hid (TxS.same (G := wV.heap.size) (TxS.Rd.up HTh.out (by omega)) hQr (Nat.le_refl _))
          have hV : (sQT K1 br og cu pAt j pCt tz (bits .xor .i64 D1 1) M1 st pA pC pAm pCm).V = DQ := hDQ
          rw [hne, ← HDT.out, hV] at HC
          clear hV hDQ hne hQr hlq
          go_wp2_with (first
            | (refine wpList_load_mid rfl _ _ rfl PT 0 rfl DT _ HPT.out Try.underlying68 rfl HSz2.out ?_)
            | (refine wpList_load_mid rfl _ _ rfl PN 0 rfl DQ _ HPU.out Try.underlying68 rfl HSz4.out ?_))
          refine HC.out.mono ?_
          rintro e wZ ⟨rfl, hb⟩
          have HBz := Lib.hid (HBl.out.trans (hb.mono (Nat.le_of_lt HX.out.lt)))
          clear HC hb
          go_wp2_with fail
          exact HPost.out _ HBz.out
        · have hcN : w13.cell? ⟨PN, 73, none⟩ = some (.bool st) := hsa.st
          have hfN : w13.frozen? ⟨PN, 73, none⟩ = false := HRu.out.frozen _
          clear hsa
          go_upto_region 29 with (fail)
          clear hcN hfN
          have hRu := row_setL HRu.out (txV_len hsl) 73 (.bool (!st))
          rw [show (73 : Nat) = 4 + 69 from rfl, txV_sq hsl 69 (by decide), (sqV_set hol hcl).2.2.2.2] at hRu
          have hgN := grown_set w13 PN 73 (.bool (!st))
          have hbN : Below PB w13 (w13.setCell ⟨PN, 73, none⟩ (.bool (!st))) := (Below.refl PB w13).setCell (p := ⟨PN, 73, none⟩) h1011 (.bool (!st))
          have hbM : Below PN w13 (w13.setCell ⟨PN, 73, none⟩ (.bool (!st))) := (Below.refl PN w13).setCell (p := ⟨PN, 73, none⟩) (Nat.le_refl _) (.bool (!st))
          have e_HTh := Lib.hid (TxS.Rd.belowG HTh.out hbN (Nat.le_of_lt hPB2) (Nat.le_refl _))
          have e_HM := Lib.hid (TxS.Rd.belowG HM.out hbM (Nat.le_of_lt hPN2) (Nat.le_refl _))
          have e_HBl := Lib.hid (HBl.out.trans (hbM.mono (Nat.le_of_lt hXN)))
          have e_HX := Lib.hid (World.rowIs.of_block HX.out (hbM.block X hXN))
          have e_HRw := Lib.hid (World.rowIs.of_block HRw.out (hbM.block PT hTN))
          have hPB3 : PB < (w13.setCell ⟨PN, 73, none⟩ (.bool (!st))).heap.size := Nat.lt_of_lt_of_le hPB2 hbM.size
          have hPN3 : PN < (w13.setCell ⟨PN, 73, none⟩ (.bool (!st))).heap.size := Nat.lt_of_lt_of_le hPN2 hbM.size
          clear HTh HM HBl HX HRw HRu HPo hgN hbN hbM
          have HTh := e_HTh
          have HM := e_HM
          have HBl := e_HBl
          have HX := e_HX
          have HRw := e_HRw
          have HRu := Lib.hid hRu
          clear e_HTh e_HM e_HBl e_HX e_HRw hRu
          generalize w13.setCell ⟨PN, 73, none⟩ (.bool (!st)) = wV at *
          have hQr : (sQT K1 br og cu pAt j pCt tz D1 M1 (!st) pA pC pAm pCm).Rd wV.heap.size wV := sQT_rd HO.out HC0.out HMc.out.1 HMc.out.2 (TxS.Rd.up HM.out (Nat.le_of_lt hPN3)).hT (fun x hx => (HZi.out x hx).1) (by omega) (by first | omega | (have := hbq; omega))
          have hlq : (txV false ByteArray.empty (.slice pA 0 pC) true (sqV K1 br og cu (.slice pAt j pCt) D1 M1 (!st)) (.slice pAm 0 pCm)).length = 75 := txV_len (sqV_len HO.out.1 hcl)
          have hne : sxEq T.D (sQT K1 br og cu pAt j pCt tz D1 M1 (!st) pA pC pAm pCm).D = false := by
            rw [HTT.out, sQT_eq (by omega) (by omega)]
            exact ne_st
          generalize hDQ : txV false ByteArray.empty (.slice pA 0 pC) true (sqV K1 br og cu (.slice pAt j pCt) D1 M1 (!st)) (.slice pAm 0 pCm) = DQ at *
          have HPT := Lib.hid (row_range HRw.out HTV.out)
          have HPU := Lib.hid (row_range HRu.out hlq)
          have HSz4 : Hid ((Try.prog.info? 68).map (·.size) = some DQ.length) := Lib.hid (by rw [hlq]; exact infoTx)
          have HC := Lib.hid (TxS.same (G := wV.heap.size) (TxS.Rd.up HTh.out (by omega)) hQr (Nat.le_refl _))
          have hV : (sQT K1 br og cu pAt j pCt tz D1 M1 (!st) pA pC pAm pCm).V = DQ := hDQ
          rw [hne, ← HDT.out, hV] at HC
          clear hV hDQ hne hQr hlq
          go_wp2_with (first
            | (refine wpList_load_mid rfl _ _ rfl PT 0 rfl DT _ HPT.out Try.underlying68 rfl HSz2.out ?_)
            | (refine wpList_load_mid rfl _ _ rfl PN 0 rfl DQ _ HPU.out Try.underlying68 rfl HSz4.out ?_))
          refine HC.out.mono ?_
          rintro e wZ ⟨rfl, hb⟩
          have HBz := Lib.hid (HBl.out.trans (hb.mono (Nat.le_of_lt HX.out.lt)))
          clear HC hb
          go_wp2_with fail
          exact HPost.out _ HBz.out
        · have hcN : w13.cell? ⟨PN, 37, none⟩ = some (.int .u8 (og.getD 31 0)) := hsa.og 31 (.int .u8 (og.getD 31 0)) (by show (og.map (Value.int .u8))[31]? = _; rw [List.getElem?_map, List.getElem?_eq_getElem (by omega)]; simp [List.getD, hol])
          have hfN : w13.frozen? ⟨PN, 37, none⟩ = false := HRu.out.frozen _
          clear hsa
          obtain ⟨ov, hovd⟩ : ∃ ov, ov = IntKind.u8.wrap (og.getD 31 0 + 1) := ⟨_, rfl⟩
          have hov := u8_next (og.getD 31 0) (HO.out.2 31 (by decide)).1 (HO.out.2 31 (by decide)).2
          rw [← hovd] at hov
          have hIv := id_set HO.out ov hov.2.1 hov.2.2
          have hw31 := hovd.symm
          have HNe3 := Lib.hid (id_set_ne HO.out ov hov.1)
          clear hovd
          generalize og.getD 31 0 = og31 at *
          go_upto_region 29 with (fail)
          clear hcN hfN
          have hRu := row_setL HRu.out (txV_len hsl) 37 (.int .u8 ov)
          rw [show (37 : Nat) = 4 + 33 from rfl, txV_sq hsl 33 (by decide), sqV_set33 hol] at hRu
          have hgN := grown_set w13 PN 37 (.int .u8 ov)
          have hbN : Below PB w13 (w13.setCell ⟨PN, 37, none⟩ (.int .u8 ov)) := (Below.refl PB w13).setCell (p := ⟨PN, 37, none⟩) h1011 (.int .u8 ov)
          have hbM : Below PN w13 (w13.setCell ⟨PN, 37, none⟩ (.int .u8 ov)) := (Below.refl PN w13).setCell (p := ⟨PN, 37, none⟩) (Nat.le_refl _) (.int .u8 ov)
          have e_HTh := Lib.hid (TxS.Rd.belowG HTh.out hbN (Nat.le_of_lt hPB2) (Nat.le_refl _))
          have e_HM := Lib.hid (TxS.Rd.belowG HM.out hbM (Nat.le_of_lt hPN2) (Nat.le_refl _))
          have e_HBl := Lib.hid (HBl.out.trans (hbM.mono (Nat.le_of_lt hXN)))
          have e_HX := Lib.hid (World.rowIs.of_block HX.out (hbM.block X hXN))
          have e_HRw := Lib.hid (World.rowIs.of_block HRw.out (hbM.block PT hTN))
          have hPB3 : PB < (w13.setCell ⟨PN, 37, none⟩ (.int .u8 ov)).heap.size := Nat.lt_of_lt_of_le hPB2 hbM.size
          have hPN3 : PN < (w13.setCell ⟨PN, 37, none⟩ (.int .u8 ov)).heap.size := Nat.lt_of_lt_of_le hPN2 hbM.size
          clear HTh HM HBl HX HRw HRu HPo hgN hbN hbM
          have HTh := e_HTh
          have HM := e_HM
          have HBl := e_HBl
          have HX := e_HX
          have HRw := e_HRw
          have HRu := Lib.hid hRu
          clear e_HTh e_HM e_HBl e_HX e_HRw hRu
          generalize w13.setCell ⟨PN, 37, none⟩ (.int .u8 ov) = wV at *
          have hQr : (sQT K1 br (og.set 31 ov) cu pAt j pCt tz D1 M1 st pA pC pAm pCm).Rd wV.heap.size wV := sQT_rd hIv HC0.out HMc.out.1 HMc.out.2 (TxS.Rd.up HM.out (Nat.le_of_lt hPN3)).hT (fun x hx => (HZi.out x hx).1) (by omega) (by first | omega | (have := hbq; omega))
          have hlq : (txV false ByteArray.empty (.slice pA 0 pC) true (sqV K1 br (og.set 31 ov) cu (.slice pAt j pCt) D1 M1 st) (.slice pAm 0 pCm)).length = 75 := txV_len (sqV_len hIv.1 hcl)
          have hne : sxEq T.D (sQT K1 br (og.set 31 ov) cu pAt j pCt tz D1 M1 st pA pC pAm pCm).D = false := by
            rw [HTT.out, sQT_eq (by omega) (by omega)]
            exact ne_og HNe3.out
          generalize hDQ : txV false ByteArray.empty (.slice pA 0 pC) true (sqV K1 br (og.set 31 ov) cu (.slice pAt j pCt) D1 M1 st) (.slice pAm 0 pCm) = DQ at *
          have HPT := Lib.hid (row_range HRw.out HTV.out)
          have HPU := Lib.hid (row_range HRu.out hlq)
          have HSz4 : Hid ((Try.prog.info? 68).map (·.size) = some DQ.length) := Lib.hid (by rw [hlq]; exact infoTx)
          have HC := Lib.hid (TxS.same (G := wV.heap.size) (TxS.Rd.up HTh.out (by omega)) hQr (Nat.le_refl _))
          have hV : (sQT K1 br (og.set 31 ov) cu pAt j pCt tz D1 M1 st pA pC pAm pCm).V = DQ := hDQ
          rw [hne, ← HDT.out, hV] at HC
          clear hV hDQ hne hQr hlq
          go_wp2_with (first
            | (refine wpList_load_mid rfl _ _ rfl PT 0 rfl DT _ HPT.out Try.underlying68 rfl HSz2.out ?_)
            | (refine wpList_load_mid rfl _ _ rfl PN 0 rfl DQ _ HPU.out Try.underlying68 rfl HSz4.out ?_))
          refine HC.out.mono ?_
          rintro e wZ ⟨rfl, hb⟩
          have HBz := Lib.hid (HBl.out.trans (hb.mono (Nat.le_of_lt HX.out.lt)))
          clear HC hb
          go_wp2_with fail
          exact HPost.out _ HBz.out
        · have hcN : w13.cell? ⟨PN, 5, none⟩ = some (.string br) := hsa.c1
          have hfN : w13.frozen? ⟨PN, 5, none⟩ = false := HRu.out.frozen _
          clear hsa
          obtain ⟨bq, hbqd⟩ : ∃ bq, bq = br ++ ⟨#[120]⟩ := ⟨_, rfl⟩
          have hbq : bq.size = br.size + 1 := by rw [hbqd, ByteArray.size_append]; rfl
          have hbqe := hbqd.symm
          clear hbqd
          go_upto_region 29 with (fail)
          try rw [hbqe]
          clear hbqe
          clear hcN hfN
          have hRu := row_setL HRu.out (txV_len hsl) 5 (.string bq)
          rw [show (5 : Nat) = 4 + 1 from rfl, txV_sq hsl 1 (by decide), (sqV_set hol hcl).1] at hRu
          have hgN := grown_set w13 PN 5 (.string bq)
          have hbN : Below PB w13 (w13.setCell ⟨PN, 5, none⟩ (.string bq)) := (Below.refl PB w13).setCell (p := ⟨PN, 5, none⟩) h1011 (.string bq)
          have hbM : Below PN w13 (w13.setCell ⟨PN, 5, none⟩ (.string bq)) := (Below.refl PN w13).setCell (p := ⟨PN, 5, none⟩) (Nat.le_refl _) (.string bq)
          have e_HTh := Lib.hid (TxS.Rd.belowG HTh.out hbN (Nat.le_of_lt hPB2) (Nat.le_refl _))
          have e_HM := Lib.hid (TxS.Rd.belowG HM.out hbM (Nat.le_of_lt hPN2) (Nat.le_refl _))
          have e_HBl := Lib.hid (HBl.out.trans (hbM.mono (Nat.le_of_lt hXN)))
          have e_HX := Lib.hid (World.rowIs.of_block HX.out (hbM.block X hXN))
          have e_HRw := Lib.hid (World.rowIs.of_block HRw.out (hbM.block PT hTN))
          have hPB3 : PB < (w13.setCell ⟨PN, 5, none⟩ (.string bq)).heap.size := Nat.lt_of_lt_of_le hPB2 hbM.size
          have hPN3 : PN < (w13.setCell ⟨PN, 5, none⟩ (.string bq)).heap.size := Nat.lt_of_lt_of_le hPN2 hbM.size
          clear HTh HM HBl HX HRw HRu HPo hgN hbN hbM
          have HTh := e_HTh
          have HM := e_HM
          have HBl := e_HBl
          have HX := e_HX
          have HRw := e_HRw
          have HRu := Lib.hid hRu
          clear e_HTh e_HM e_HBl e_HX e_HRw hRu
          generalize w13.setCell ⟨PN, 5, none⟩ (.string bq) = wV at *
          have hQr : (sQT K1 bq og cu pAt j pCt tz D1 M1 st pA pC pAm pCm).Rd wV.heap.size wV := sQT_rd HO.out HC0.out HMc.out.1 HMc.out.2 (TxS.Rd.up HM.out (Nat.le_of_lt hPN3)).hT (fun x hx => (HZi.out x hx).1) (by omega) (by first | omega | (have := hbq; omega))
          have hlq : (txV false ByteArray.empty (.slice pA 0 pC) true (sqV K1 bq og cu (.slice pAt j pCt) D1 M1 st) (.slice pAm 0 pCm)).length = 75 := txV_len (sqV_len HO.out.1 hcl)
          have hne : sxEq T.D (sQT K1 bq og cu pAt j pCt tz D1 M1 st pA pC pAm pCm).D = false := by
            rw [HTT.out, sQT_eq (by omega) (by omega)]
            exact ne_br (by omega)
          generalize hDQ : txV false ByteArray.empty (.slice pA 0 pC) true (sqV K1 bq og cu (.slice pAt j pCt) D1 M1 st) (.slice pAm 0 pCm) = DQ at *
          have HPT := Lib.hid (row_range HRw.out HTV.out)
          have HPU := Lib.hid (row_range HRu.out hlq)
          have HSz4 : Hid ((Try.prog.info? 68).map (·.size) = some DQ.length) := Lib.hid (by rw [hlq]; exact infoTx)
          have HC := Lib.hid (TxS.same (G := wV.heap.size) (TxS.Rd.up HTh.out (by omega)) hQr (Nat.le_refl _))
          have hV : (sQT K1 bq og cu pAt j pCt tz D1 M1 st pA pC pAm pCm).V = DQ := hDQ
          rw [hne, ← HDT.out, hV] at HC
          clear hV hDQ hne hQr hlq
          go_wp2_with (first
            | (refine wpList_load_mid rfl _ _ rfl PT 0 rfl DT _ HPT.out Try.underlying68 rfl HSz2.out ?_)
            | (refine wpList_load_mid rfl _ _ rfl PN 0 rfl DQ _ HPU.out Try.underlying68 rfl HSz4.out ?_))
          refine HC.out.mono ?_
          rintro e wZ ⟨rfl, hb⟩
          have HBz := Lib.hid (HBl.out.trans (hb.mono (Nat.le_of_lt HX.out.lt)))
          clear HC hb
          go_wp2_with fail
          exact HPost.out _ HBz.out
        · have hcN : w13.cell? ⟨PN, 70, none⟩ = some (.slice pAt j pCt) := hsa.td
          have hfN : w13.frozen? ⟨PN, 70, none⟩ = false := HRu.out.frozen _
          clear hsa
          have HBt := Lib.hid (built_td 1)
          rw [show ((1 : Nat) : Int) = 1 from rfl] at HBt
          obtain ⟨DY, hDY⟩ : ∃ DY, DY = tdN 1 := ⟨_, rfl⟩
          have hYl : DY.length = 33 := by rw [hDY]; exact tdN_len 1
          rw [← hDY] at HBt
          have HTl2 := Lib.hid hYl
          have HTo2 : Hid (∀ u ∈ DY, u.oneCell' = true) := Lib.hid (by rw [hDY]; exact Td.one _)
          have HNw := Lib.hid (new_cellsZ w13 DY 84)
          have HbA := Lib.hid ((Below.refl w13.heap.size w13).alloc (Nat.le_refl _) (.cells DY.toArray 84))
          have HoA := Lib.hid (own_keep HPo.out HbA.out)
          have HBs : Hid (PB ≤ (w13.alloc (.cells DY.toArray 84)).heap.size) := Lib.hid (Nat.le_trans (Nat.le_of_lt hPB2) HbA.out.size)
          have hne1 := own_ne_rowT HPo.out HRu.out (by decide)
          have hne2 := own_ne_rowT HPo.out HX.out (by decide)
          have hne3 := own_ne_rowT HPo.out HRw.out (by decide)
          have HNe := Lib.hid (And.intro hne1 (And.intro hne2 hne3))
          have HDYe : Hid (DY = (⟨1, List.replicate 32 0⟩ : Td).cells) := Lib.hid hDY
          clear hYl hne1 hne2 hne3 hDY
          go_wp2_with (first
            | (refine wpList_buildT rfl 84 0 _ rfl _ rfl DY.toArray HBt.out ?_)
            | (refine wpList_build_z rowTd _ rfl _ rfl DY rfl HTl2.out ?_)
            | (at_builtin; refine wpList_append_z rowTd _ rfl _ _ rfl PB _ j (tdsV tz) rfl HoA.out w13.heap.size DY rfl HNw.out HTl2.out HTo2.out (by omega) HBs.out ?_))
          intro A9 C9 w14 hoE hgE
          have hbA := HbA.out
          have hbE : Below PB (w13.alloc (.cells DY.toArray 84)) w14 := (Below.refl PB _).grown hgE HBs.out (fun k hk => (HoA.out.lt k hk).1)
          have hbN := (hbA.mono (Nat.le_of_lt hPB2)).trans hbE
          have e_HTh := TxS.Rd.belowG HTh.out hbN (Nat.le_of_lt hPB2) (Nat.le_refl _)
          have h1 := World.rowIs.of_block HRu.out (hbA.block PN hPN2)
          have e_HRu := h1.of_block (hgE.block PN h1.lt HNe.out.1.symm)
          have h2 := World.rowIs.of_block HX.out (hbA.block X hXN2)
          have e_HX := h2.of_block (hgE.block X h2.lt HNe.out.2.1.symm)
          have h3 := World.rowIs.of_block HRw.out (hbA.block PT hTN2)
          have e_HRw := h3.of_block (hgE.block PT h3.lt HNe.out.2.2.symm)
          have e_HBl := HBl.out.trans (hbN.mono hXPB)
          have hPB3 : PB < w14.heap.size := Nat.lt_of_lt_of_le hPB2 hbN.size
          have hPN3 : PN < w14.heap.size := Nat.lt_of_lt_of_le hPN2 hbN.size
          have hc14 : w14.cell? ⟨PN, 70, none⟩ = some _ := e_HRu.cell (i := 70) (by decide)
          have hf14 : w14.frozen? ⟨PN, 70, none⟩ = false := e_HRu.frozen _
          have hneE := own_ne_rowT hoE e_HRu (by decide)
          have hRu := row_setL e_HRu (txV_len hsl) 70 (.slice A9 (j + 1) C9)
          rw [show (70 : Nat) = 4 + 66 from rfl, txV_sq hsl 66 (by decide), (sqV_set hol hcl).2.1] at hRu
          have hbZ : Below PB w14 (w14.setCell ⟨PN, 70, none⟩ (.slice A9 (j + 1) C9)) := (Below.refl PB w14).setCell (p := ⟨PN, 70, none⟩) h1011 (.slice A9 (j + 1) C9)
          have hbM : Below PN w14 (w14.setCell ⟨PN, 70, none⟩ (.slice A9 (j + 1) C9)) := (Below.refl PN w14).setCell (p := ⟨PN, 70, none⟩) (Nat.le_refl _) (.slice A9 (j + 1) C9)
          have hoZ := own_grown hoE (grown_set w14 PN 70 (.slice A9 (j + 1) C9)) hneE
          rw [HDYe.out, ← tdsV_snoc] at hoZ
          have f_HTh := Lib.hid (TxS.Rd.belowG e_HTh hbZ (Nat.le_of_lt hPB3) (Nat.le_refl _))
          have f_HX := Lib.hid (World.rowIs.of_block e_HX (hbM.block X hXN))
          have f_HRw := Lib.hid (World.rowIs.of_block e_HRw (hbM.block PT hTN))
          have f_HBl := Lib.hid (e_HBl.trans (hbM.mono (Nat.le_of_lt hXN)))
          have hPB4 : PB < (w14.setCell ⟨PN, 70, none⟩ (.slice A9 (j + 1) C9)).heap.size := Nat.lt_of_lt_of_le hPB3 hbM.size
          have HoZ := Lib.hid hoZ
          clear HTh HM HBl HX HRw HRu HPo HBt HTl2 HTo2 HNw HbA HoA HBs HNe hcN hfN hbA hbE hbN e_HTh h1 h2 h3 e_HRu e_HX e_HRw e_HBl hoE hgE hneE hbZ hbM hoZ hPB3 hPN3
          have HTh := f_HTh
          have HX := f_HX
          have HRw := f_HRw
          have HBl := f_HBl
          have HRu := Lib.hid hRu
          clear f_HTh f_HX f_HRw f_HBl hRu
          go_upto_region 29 with (fail)
          clear hc14 hf14
          generalize w14.setCell ⟨PN, 70, none⟩ (.slice A9 (j + 1) C9) = wV at *
          have hQt : RdT wV.heap.size wV A9 (j + 1) C9 (tz ++ [⟨1, List.replicate 32 0⟩]) := ⟨RdS.of_own (by have := HoZ.out; unfold tdsV at this; rwa [flatMap_flat] at this) (fun x hx => by
            obtain ⟨y, hy, rfl⟩ := List.mem_map.1 hx
            rcases List.mem_append.1 hy with hy | hy
            · exact Td.len (HZi.out y hy).1.1
            · rw [List.mem_singleton.1 hy]; exact Td.len (by simp)) (by simp [hzl]), fun t ht => by
            rcases List.mem_append.1 ht with hy | hy
            · exact (HZi.out t hy).1.1
            · rw [List.mem_singleton.1 hy]; simp⟩
          have hQr : (sQT K1 br og cu A9 (j + 1) C9 (tz ++ [⟨1, List.replicate 32 0⟩]) D1 M1 st pA pC pAm pCm).Rd wV.heap.size wV := sQT_rd HO.out HC0.out HMc.out.1 HMc.out.2 hQt (fun x hx => by
            rcases List.mem_append.1 hx with hy | hy
            · exact (HZi.out x hy).1
            · rw [List.mem_singleton.1 hy]; exact idZ_ok) (by omega) (by omega)
          have hlq : (txV false ByteArray.empty (.slice pA 0 pC) true (sqV K1 br og cu (.slice A9 (j + 1) C9) D1 M1 st) (.slice pAm 0 pCm)).length = 75 := txV_len (sqV_len hol hcl)
          have hne : sxEq T.D (sQT K1 br og cu A9 (j + 1) C9 (tz ++ [⟨1, List.replicate 32 0⟩]) D1 M1 st pA pC pAm pCm).D = false := by
            rw [HTT.out, sQT_eq (by omega) (by omega)]
            exact ne_ts (by simp)
          clear hQt
          generalize hDQ : txV false ByteArray.empty (.slice pA 0 pC) true (sqV K1 br og cu (.slice A9 (j + 1) C9) D1 M1 st) (.slice pAm 0 pCm) = DQ at *
          have HPT := Lib.hid (row_range HRw.out HTV.out)
          have HPU := Lib.hid (row_range HRu.out hlq)
          have HSz4 : Hid ((Try.prog.info? 68).map (·.size) = some DQ.length) := Lib.hid (by rw [hlq]; exact infoTx)
          have HC := Lib.hid (TxS.same (G := wV.heap.size) (TxS.Rd.up HTh.out (by omega)) hQr (Nat.le_refl _))
          have hV : (sQT K1 br og cu A9 (j + 1) C9 (tz ++ [⟨1, List.replicate 32 0⟩]) D1 M1 st pA pC pAm pCm).V = DQ := hDQ
          rw [hne, ← HDT.out, hV] at HC
          clear hV hDQ hne hQr hlq
          go_wp2_with (first
            | (refine wpList_load_mid rfl _ _ rfl PT 0 rfl DT _ HPT.out Try.underlying68 rfl HSz2.out ?_)
            | (refine wpList_load_mid rfl _ _ rfl PN 0 rfl DQ _ HPU.out Try.underlying68 rfl HSz4.out ?_))
          refine HC.out.mono ?_
          rintro e wZ ⟨rfl, hb⟩
          have HBz := Lib.hid (HBl.out.trans (hb.mono (Nat.le_of_lt HX.out.lt)))
          clear HC hb
          go_wp2_with fail
          exact HPost.out _ HBz.out
end Go.Proofs.Ytmcmapgllaopmaa.Cd
end
