/- Texts of one's own, merged: CdTxI, CdTxF, CdCw, CdTxK. -/
import Derived.Test.YtmcmapgllaopmaaMi

section
namespace Go.Proofs.Ytmcmapgllaopmaa.Cd
open Go.RowKit
set_option linter.unusedVariables false
structure TxS where
  hh : Bool
  hd : ByteArray
  A : Option Addr
  n : Nat
  C : Nat
  ms : List Mv
  hs : Bool
  k : Int
  br : ByteArray
  og : List Int
  cu : List Int
  At : Option Addr
  nt : Nat
  Ct : Nat
  ts : List Td
  dn : Int
  md : Int
  st : Bool
  Am : Option Addr
  m : Nat
  Cm : Nat
  ys : List My
def TxS.sq (t : TxS) : List Value := sqV t.k t.br t.og t.cu (.slice t.At t.nt t.Ct) t.dn t.md t.st
def TxS.V (t : TxS) : List Value := txV t.hh t.hd (.slice t.A t.n t.C) t.hs t.sq (.slice t.Am t.m t.Cm)
def TxS.D (t : TxS) : TxD := ⟨t.hh, t.hd, t.ms, t.hs, ⟨t.k, t.br, t.og, t.cu, t.ts, t.dn, t.md, t.st⟩, t.ys⟩
/-- what can be read of it, sizes within bounds -/
structure TxS.Rd (t : TxS) (G : Nat) (w : World) : Prop where
  ho : IdOk t.og
  hc : IdOk t.cu
  hM : RdM G w t.A t.n t.C t.ms
  hMi : ∀ x ∈ t.ms, IdOk x.od ∧ IdOk x.nw
  hT : RdT G w t.At t.nt t.Ct t.ts
  hTi : ∀ x ∈ t.ts, IdOk x.id
  hY : RdY G w t.Am t.m t.Cm t.ys
  hYi : ∀ y ∈ t.ys, IdOk y.key
  hn : t.n ≤ 1000000000
  hm : t.m ≤ 1000000000
  hnt : t.nt ≤ 1000000000
  hhd : t.hd.size ≤ 1000000000
  hbr : t.br.size ≤ 1000000000
theorem TxS.Rd.below {t : TxS} {G : Nat} {w w' : World} (h : t.Rd G w) (hb : Below w.heap.size w w') (hG : G ≤ w.heap.size) : t.Rd G w' :=
  ⟨h.ho, h.hc, h.hM.below hb hG, h.hMi, h.hT.below hb hG, h.hTi, h.hY.below hb (Nat.le_refl _) hG, h.hYi, h.hn, h.hm, h.hnt, h.hhd, h.hbr⟩
theorem TxS.sq_len {t : TxS} (ho : t.og.length = 32) (hc : t.cu.length = 32) : t.sq.length = 70 := sqV_len ho hc
theorem TxS.V_len {t : TxS} (ho : t.og.length = 32) (hc : t.cu.length = 32) : t.V.length = 75 := txV_len (TxS.sq_len ho hc)
theorem TxS.V_one (t : TxS) : ∀ v ∈ t.V, v.oneCell' = true := txV_one rfl (sqV_one rfl) rfl
theorem TxS.encode {t : TxS} {G : Nat} {w : World} (h : t.Rd G w) (hG : G ≤ w.heap.size) : Calls Try.prog 29 #[.agg t.V.toArray] w (TxRet t.D w) :=
  encodeTx_any G t.hh t.hd t.A t.n t.C t.ms t.hs t.k t.br t.og t.cu t.At t.nt t.Ct t.ts t.dn t.md t.st t.Am t.m t.Cm t.ys w h.ho h.hc h.hM h.hMi h.hT h.hTi h.hY h.hYi hG h.hn h.hm h.hnt h.hhd h.hbr
theorem TxS.rencode {t : TxS} {G : Nat} {w : World} (h : t.Rd G w) (hG : G ≤ w.heap.size) : Calls Try.prog 30 #[.agg t.V.toArray] w (TxRet t.D w) :=
  rencodeTx_any G t.hh t.hd t.A t.n t.C t.ms t.hs t.k t.br t.og t.cu t.At t.nt t.Ct t.ts t.dn t.md t.st t.Am t.m t.Cm t.ys w h.ho h.hc h.hM h.hMi h.hT h.hTi h.hY h.hYi hG h.hn h.hm h.hnt h.hhd h.hbr
theorem TxS.same {t u : TxS} {G : Nat} {w : World} (h : t.Rd G w) (k : u.Rd G w) (hG : G ≤ w.heap.size) : Calls Try.prog 34 #[.agg t.V.toArray, .agg u.V.toArray] w fun e w' => e = .returned (.bool (sxEq t.D u.D)) ∧ Below w.heap.size w w' :=
  sameTx_any G t.hh t.hd t.A t.n t.C t.ms t.hs t.k t.br t.og t.cu t.At t.nt t.Ct t.ts t.dn t.md t.st t.Am t.m t.Cm t.ys u.hh u.hd u.A u.n u.C u.ms u.hs u.k u.br u.og u.cu u.At u.nt u.Ct u.ts u.dn u.md u.st u.Am u.m u.Cm u.ys w
    h.ho h.hc h.hM h.hT h.hTi h.hY h.hn h.hm h.hnt h.hbr k.ho k.hc k.hM k.hT k.hTi k.hY k.hn k.hm k.hnt k.hbr hG
theorem TxS.rsame {t u : TxS} {G : Nat} {w : World} (h : t.Rd G w) (k : u.Rd G w) (hG : G ≤ w.heap.size) : Calls Try.prog 33 #[.agg t.V.toArray, .agg u.V.toArray] w fun e w' => e = .returned (.bool (sxEq t.D u.D)) ∧ Below w.heap.size w w' :=
  rsameTx_any G t.hh t.hd t.A t.n t.C t.ms t.hs t.k t.br t.og t.cu t.At t.nt t.Ct t.ts t.dn t.md t.st t.Am t.m t.Cm t.ys u.hh u.hd u.A u.n u.C u.ms u.hs u.k u.br u.og u.cu u.At u.nt u.Ct u.ts u.dn u.md u.st u.Am u.m u.Cm u.ys w
    h.ho h.hc h.hM h.hT h.hY h.hn h.hm h.hnt k.ho k.hc k.hM k.hT k.hY k.hn k.hm k.hnt hG
/-- no transaction -/
def TxS.zero : TxS := ⟨false, ByteArray.empty, none, 0, 0, [], false, 0, ByteArray.empty, List.replicate 32 0, List.replicate 32 0, none, 0, 0, [], 0, 0, false, none, 0, 0, []⟩
theorem TxS.zero_V : TxS.zero.V = tx0 := rfl
theorem RdS.nil (G sz : Nat) (w : World) : RdS G sz w none 0 0 [] := ⟨rfl, Nat.le_refl _, by omega, fun c hc => absurd hc (by simp), fun h0 => absurd h0 (by omega)⟩
theorem TxS.zero_rd (G : Nat) (w : World) : TxS.zero.Rd G w :=
  ⟨idZ_ok, idZ_ok, ⟨RdS.nil G 66 w, fun m hm => absurd hm (by simp [TxS.zero])⟩, fun x hx => absurd hx (by simp [TxS.zero]), ⟨RdS.nil G 33 w, fun m hm => absurd hm (by simp [TxS.zero])⟩, fun x hx => absurd hx (by simp [TxS.zero]),
    ⟨RdS.nil G 33 w, fun m hm => absurd hm (by simp [TxS.zero])⟩, fun x hx => absurd hx (by simp [TxS.zero]), by decide, by decide, by decide, by decide, by decide⟩
theorem flat_get {sz : Nat} : ∀ (l : List (List Value)), (∀ x ∈ l, x.length = sz) → ∀ i j, i < l.length → j < sz → l.flatten[i * sz + j]? = (l.getD i [])[j]?
  | [], _, i, j, hi, _ => absurd hi (by simp)
  | x :: l, h, 0, j, _, hj => by
    have hx : x.length = sz := h x (List.mem_cons_self ..)
    rw [List.flatten_cons, List.getElem?_append_left (by omega)]
    simp
  | x :: l, h, i + 1, j, hi, hj => by
    have hx : x.length = sz := h x (List.mem_cons_self ..)
    rw [List.flatten_cons, List.getElem?_append_right (by rw [Nat.add_mul]; omega), show (i + 1) * sz + j - x.length = i * sz + j by rw [Nat.add_mul]; omega]
    exact flat_get l (fun y hy => h y (List.mem_cons_of_mem _ hy)) i j (by simpa using hi) hj
theorem getD_memL {l : List (List Value)} {k : Nat} (h : k < l.length) : l.getD k [] ∈ l := by
  rw [List.getD_eq_getElem?_getD, List.getElem?_eq_getElem h]; exact List.getElem_mem h
theorem RdS.of_own {w : World} {B t sz n C : Nat} {A : Option Addr} {cs : List (List Value)} (h : w.ownsRow B t sz (.slice A n C) n cs.flatten) (hs : ∀ x ∈ cs, x.length = sz) (he : cs.length = n) : RdS w.heap.size sz w A n C cs := by
  rcases h.2 with ⟨hv, hz⟩ | ⟨g, cap, cur, hv, hb, hg, hnc, hcm, hcs, htake⟩
  · simp only [Value.slice.injEq] at hv
    obtain ⟨rfl, -, rfl⟩ := hv
    subst hz
    exact ⟨he, Nat.le_refl _, by omega, hs, fun h => absurd h (by omega)⟩
  · simp only [Value.slice.injEq, true_and] at hv
    obtain ⟨rfl, rfl⟩ := hv
    have hcm2 := hcm
    unfold maxLen at hcm2
    refine ⟨he, hnc, by omega, hs, fun h0 => ⟨g, 0, rfl, ?_, fun i hi j v hj => ?_⟩⟩
    · rcases Nat.lt_or_ge g w.heap.size with h | h
      · exact h
      · rw [Array.getElem?_eq_none h] at hg; simp at hg
    · have hx : (cs.getD i []).length = sz := hs _ (getD_memL (by omega))
      have hj2 : j < sz := by have := (List.getElem?_eq_some_iff.1 hj).1; omega
      have hlt : i * sz + j < n * sz := by
        have : (i + 1) * sz ≤ n * sz := Nat.mul_le_mul_right _ (by omega)
        rw [Nat.add_mul] at this
        omega
      rw [Nat.zero_add, World.ownsRow.cellAt h _ hlt, flat_get cs hs i j (by omega) hj2]
      exact hj
theorem flatMap_flat {α : Type} (f : α → List Value) (l : List α) : l.flatMap f = (l.map f).flatten := by rw [List.flatMap_def]
section
variable {l : List Int} {L : Nat}
theorem geI_ok (hl : l.length = L) (hb : ∀ i, i < L → 0 ≤ l.getD i 0 ∧ l.getD i 0 ≤ 255) (p : Pl) : IdOk (geI l L p) := by
  refine ⟨geI_len l L p, fun i hi => ?_⟩
  have h := geL_byte hl hb p 32 i
  have e : geI l L p = geL l L p 32 ++ List.replicate (32 - (geL l L p 32).length) 0 := rfl
  rw [e]
  by_cases h1 : i < (geL l L p 32).length
  · have : (geL l L p 32 ++ List.replicate (32 - (geL l L p 32).length) 0).getD i 0 = (geL l L p 32).getD i 0 := by
      simp only [List.getD]; rw [List.getElem?_append_left h1]
    rw [this]; exact h h1
  · have : (geL l L p 32 ++ List.replicate (32 - (geL l L p 32).length) 0).getD i 0 = 0 := by
      simp only [List.getD]; rw [List.getElem?_append_right (by omega), List.getElem?_replicate]
      split <;> rfl
    rw [this]; omega
theorem geT_size (p : Pl) (n most : Nat) (hn : n ≤ 4) (hl : l.length = L) (hb : ∀ i, i < L → 0 ≤ l.getD i 0 ∧ l.getD i 0 ≤ 255) : (geT l L p n most).size < 256 ^ n := by
  have h : geT l L p n most = sb (tkL (tx2 p.1 l p.2 L n most) l (tkA p.1 p.2 L n) L (txM p.1 l p.2 L n)) := rfl
  rw [h, sb_size]
  have h1 : txM p.1 l p.2 L n < 256 ^ n := geN_lt (p := p) hn hl hb
  have h2 : (tkL (tx2 p.1 l p.2 L n most) l (tkA p.1 p.2 L n) L (txM p.1 l p.2 L n)).length ≤ txM p.1 l p.2 L n := by
    unfold tkL
    split
    · rw [List.length_take]; omega
    · simp
  omega
def MvOk (m : Mv) : Prop := IdOk m.od ∧ IdOk m.nw ∧ m.nm.size < 65536 ∧ m.wy.size < 65536
theorem mvP_ok (hl : l.length = L) (hb : ∀ i, i < L → 0 ≤ l.getD i 0 ∧ l.getD i 0 ≤ 255) (p : Pl) : MvOk (mvP l L p) :=
  ⟨geI_ok hl hb _, geI_ok hl hb _, by have : (vNm l L p).size < 256 ^ 1 := geT_size p 1 255 (by decide) hl hb; show (vNm l L p).size < _; omega, by have : (vWy l L p).size < 256 ^ 2 := geT_size _ 2 65535 (by decide) hl hb; show (vWy l L p).size < _; omega⟩
theorem mvL_ok (hl : l.length = L) (hb : ∀ i, i < L → 0 ≤ l.getD i 0 ∧ l.getD i 0 ≤ 255) : ∀ (n : Nat) (p : Pl) (ms : List Mv), (∀ t ∈ ms, MvOk t) → ∀ t ∈ (mvL l L n p ms).2, MvOk t
  | 0, _, _, h => h
  | n + 1, p, ms, h => by
    unfold mvL
    split
    · refine mvL_ok hl hb n _ _ (fun t ht => ?_)
      rcases List.mem_append.1 ht with ht | ht
      · exact h t ht
      · rw [List.mem_singleton.1 ht]; exact mvP_ok hl hb p
    · exact h
theorem tdL_ok (hl : l.length = L) (hb : ∀ i, i < L → 0 ≤ l.getD i 0 ∧ l.getD i 0 ≤ 255) : ∀ (n : Nat) (p : Pl) (ts : List Td), (∀ t ∈ ts, IdOk t.id) → ∀ t ∈ (tdL l L n p ts).2, IdOk t.id
  | 0, _, _, h => h
  | n + 1, p, ts, h => by
    unfold tdL
    split
    · refine tdL_ok hl hb n _ _ (fun t ht => ?_)
      rcases List.mem_append.1 ht with ht | ht
      · exact h t ht
      · rw [List.mem_singleton.1 ht]; exact geI_ok hl hb _
    · exact h
theorem ymL_ok (hl : l.length = L) (hb : ∀ i, i < L → 0 ≤ l.getD i 0 ∧ l.getD i 0 ≤ 255) : ∀ (n : Nat) (p : Pl) (ys : List Yp), (∀ t ∈ ys, IdOk t.1 ∧ t.2.length ≤ L) → ∀ t ∈ (ymL l L n p ys).2, IdOk t.1 ∧ t.2.length ≤ L
  | 0, _, _, h => h
  | n + 1, p, ys, h => by
    unfold ymL
    split
    · refine ymL_ok hl hb n _ _ (fun t ht => ?_)
      rcases List.mem_append.1 ht with ht | ht
      · exact h t ht
      · rw [List.mem_singleton.1 ht]
        refine ⟨geI_ok hl hb _, ?_⟩
        show (tkL _ l _ L _).length ≤ L
        unfold tkL
        split
        · rw [List.length_take, List.length_drop]; omega
        · simp
    · exact h
theorem xSq_ok (hl : l.length = L) (hb : ∀ i, i < L → 0 ≤ l.getD i 0 ∧ l.getD i 0 ≤ 255) (p : Pl) : IdOk (xSq l L p).og ∧ IdOk (xSq l L p).cu ∧ (∀ t ∈ (xSq l L p).ts, IdOk t.id) ∧ (xSq l L p).ts.length ≤ 65536 ∧ (xSq l L p).br.size < 65536 := by
  have hn : ∀ k, IdOk (Sq.nil k).og ∧ IdOk (Sq.nil k).cu ∧ (∀ t ∈ (Sq.nil k).ts, IdOk t.id) ∧ (Sq.nil k).ts.length ≤ 65536 ∧ (Sq.nil k).br.size < 65536 := fun k => ⟨idZ_ok, idZ_ok, fun t ht => absurd ht (by simp [Sq.nil]), by simp [Sq.nil], by show (0 : Nat) < 65536; decide⟩
  unfold xSq
  split
  · unfold sqP
    split
    · exact hn 0
    · refine ⟨geI_ok hl hb _, geI_ok hl hb _, tdL_ok hl hb _ _ _ (fun t ht => absurd ht (by simp)), ?_, ?_⟩
      · have h1 := tdL_len l L (sM l L (xQ l L p).1) (sP5 l L (xQ l L p).1) []
        have h2 : sM l L (xQ l L p).1 < 256 ^ 2 := geN_lt (by decide) hl hb
        simp at h1
        show (tdL l L (sM l L (xQ l L p).1) (sP5 l L (xQ l L p).1) []).2.length ≤ _
        omega
      · have h2 : (sBr l L (xQ l L p).1).size < 256 ^ 1 := geT_size _ 1 255 (by decide) hl hb
        show (sBr l L (xQ l L p).1).size < _
        omega
  · exact hn 0
end
/-- a transaction told, its conflicts plainly -/
structure TxP where
  hh : Bool
  hd : ByteArray
  ms : List Mv
  hs : Bool
  sq : SqD
  ys : List Yp
def TxS.pl (t : TxS) : TxP := ⟨t.hh, t.hd, t.ms, t.hs, ⟨t.k, t.br, t.og, t.cu, t.ts, t.dn, t.md, t.st⟩, t.ys.map My.pl⟩
def Sq.D (s : Sq) : SqD := ⟨s.k, s.br, s.og, s.cu, s.ts, s.dn, s.md, s.st⟩
/-- what ParseTx tells -/
def ptP (l : List Int) (L : Nat) : TxP :=
  if xF l L = 0 then ⟨xHh l L (0, 0), xHd l L (0, 0), (xQ l L (0, 0)).2, xHs l L (0, 0), (xSq l L (0, 0)).D, (xR l L (0, 0)).2⟩ else TxS.zero.pl
/-- one's own rows -/
def TxS.Own (t : TxS) (B : Nat) (w : World) : Prop := t.n = t.ms.length ∧ t.nt = t.ts.length ∧ t.m = t.ys.length ∧ TxOwn B w t.A t.C t.ms t.At t.Ct t.ts t.Am t.Cm t.ys
theorem TxS.Own.mono {t : TxS} {B B' : Nat} {w w' : World} (h : t.Own B w) (hB : B' ≤ B) (hb : Below w.heap.size w w') : t.Own B' w' := ⟨h.1, h.2.1, h.2.2.1, h.2.2.2.mono hB hb⟩
theorem TxS.zero_own (B : Nat) (w : World) : TxS.zero.Own B w := ⟨rfl, rfl, rfl, ⟨by simp [TxS.zero, mvsV], .inl ⟨rfl, rfl⟩⟩, ⟨by simp [TxS.zero, tdsV], .inl ⟨rfl, rfl⟩⟩, ⟨by simp [TxS.zero, mysV], .inl ⟨rfl, rfl⟩⟩, fun y hy => absurd hy (by simp [TxS.zero])⟩
theorem TxS.Own.rd {t : TxS} {B : Nat} {w : World} (h : t.Own B w) (ho : IdOk t.og) (hc : IdOk t.cu) (hm : ∀ x ∈ t.ms, MvOk x) (ht : ∀ x ∈ t.ts, IdOk x.id) (hy : ∀ y ∈ t.ys, IdOk y.key) (hyd : ∀ y ∈ t.ys, y.l.length ≤ 1000000000) (h1 : t.ms.length ≤ 65536) (h2 : t.ts.length ≤ 65536) (h3 : t.ys.length ≤ 65536) (h4 : t.hd.size < 65536) (h5 : t.br.size < 65536) : t.Rd w.heap.size w := by
  obtain ⟨e1, e2, e3, hT⟩ := h
  have a1 := hT.m
  have a2 := hT.t
  have a3 := hT.y
  rw [← e1] at a1
  rw [← e2] at a2
  rw [← e3] at a3
  unfold mvsV at a1
  unfold tdsV at a2
  unfold mysV at a3
  rw [flatMap_flat] at a1 a2 a3
  refine ⟨ho, hc, ⟨RdS.of_own a1 (fun x hx => ?_) (by rw [List.length_map]; exact e1.symm), fun m hm' => ?_⟩, fun x hx => ⟨(hm x hx).1, (hm x hx).2.1⟩, ⟨RdS.of_own a2 (fun x hx => ?_) (by rw [List.length_map]; exact e2.symm), fun m hm' => (ht m hm').1⟩, ht, ⟨RdS.of_own a3 (fun x hx => ?_) (by rw [List.length_map]; exact e3.symm), fun y hy' => ?_⟩, hy, by omega, by omega, by omega, by omega, by omega⟩
  · obtain ⟨m, hm', rfl⟩ := List.mem_map.1 hx
    exact Mv.len (hm m hm').1.1 (hm m hm').2.1.1
  · have := hm m hm'
    exact ⟨this.1.1, this.2.1.1, by have := this.2.2.1; omega, by have := this.2.2.2; omega⟩
  · obtain ⟨m, hm', rfl⟩ := List.mem_map.1 hx
    exact Td.len (ht m hm').1
  · obtain ⟨m, hm', rfl⟩ := List.mem_map.1 hx
    exact My.len (hy m hm').1
  · have h6 := hT.d y hy'
    exact ⟨h6.key, by have := hyd y hy'; have hn := h6.dat.rd.len; omega, ⟨h6.dat.rd, fun x hx _ => (h6.dat.lt hx).2⟩⟩
/-- ParseTx, the program's and the document's, in one word -/
theorem TpRet.flat {l : List Int} {L : Nat} {w w' : World} {e : Ending} (h : TpRet l L w e w') (hl : l.length = L) (hb : ∀ i, i < L → 0 ≤ l.getD i 0 ∧ l.getD i 0 ≤ 255) (hL : L ≤ 1000000000) :
    Below w.heap.size w w' ∧ ∃ P : TxS, e = .returned (.tuple #[.agg P.V.toArray, .int .i64 (xF l L)]) ∧ P.Own w.heap.size w' ∧ P.Rd w'.heap.size w' ∧ P.pl = ptP l L := by
  obtain ⟨h1, ⟨h0, he⟩ | ⟨h0, Am, Cm, At, Ct, Ay, Cy, ys, he, hT, hp⟩⟩ := h
  · exact ⟨h1, TxS.zero, by rw [he, TxS.zero_V], TxS.zero_own _ _, TxS.zero_rd _ _, by rw [ptP, if_neg h0]⟩
  · obtain ⟨o1, o2, o3, o4, o5⟩ := xSq_ok hl hb (0, 0)
    have hyl : ys.length = (xR l L (0, 0)).2.length := by rw [← hp, List.length_map]
    have hyk : ∀ y ∈ ys, IdOk y.key ∧ y.l.length ≤ L := fun y hy => by
      have h2 : y.pl ∈ (xR l L (0, 0)).2 := by rw [← hp]; exact List.mem_map_of_mem hy
      exact ymL_ok hl hb _ _ _ (fun t ht => absurd ht (by simp)) _ h2
    have n1 : (xQ l L (0, 0)).2.length ≤ 65536 := by
      have h1 := mvL_len l L (xM l L (0, 0)) (xP4 l L (0, 0)) []
      have h2 : xM l L (0, 0) < 256 ^ 2 := geN_lt (by decide) hl hb
      simp at h1
      show (mvL l L (xM l L (0, 0)) (xP4 l L (0, 0)) []).2.length ≤ _
      omega
    have n3 : ys.length ≤ 65536 := by
      rw [hyl]
      have h1 := ymL_len l L (xN l L (0, 0)) (xP6 l L (0, 0)) []
      have h2 : xN l L (0, 0) < 256 ^ 2 := geN_lt (by decide) hl hb
      simp at h1
      show (ymL l L (xN l L (0, 0)) (xP6 l L (0, 0)) []).2.length ≤ _
      omega
    have n4 : (xHd l L (0, 0)).size < 65536 := by
      unfold xHd
      split
      · have : (geT l L (xP2 l L (0, 0)) 1 255).size < 256 ^ 1 := geT_size _ 1 255 (by decide) hl hb
        omega
      · show (0 : Nat) < 65536; decide
    obtain ⟨P, hP⟩ : ∃ P : TxS, P = ⟨xHh l L (0, 0), xHd l L (0, 0), Am, (xQ l L (0, 0)).2.length, Cm, (xQ l L (0, 0)).2, xHs l L (0, 0), (xSq l L (0, 0)).k, (xSq l L (0, 0)).br, (xSq l L (0, 0)).og, (xSq l L (0, 0)).cu, At, (xSq l L (0, 0)).ts.length, Ct, (xSq l L (0, 0)).ts, (xSq l L (0, 0)).dn, (xSq l L (0, 0)).md, (xSq l L (0, 0)).st, Ay, ys.length, Cy, ys⟩ := ⟨_, rfl⟩
    have hO : P.Own w.heap.size w' := by rw [hP]; exact ⟨rfl, rfl, rfl, hT⟩
    refine ⟨h1, P, ?_, hO, hO.rd ?_ ?_ ?_ ?_ ?_ ?_ ?_ ?_ ?_ ?_ ?_, ?_⟩
    · rw [he, h0, hP]; rfl
    · rw [hP]; exact o1
    · rw [hP]; exact o2
    · rw [hP]; exact mvL_ok hl hb _ _ _ (fun t ht => absurd ht (by simp))
    · rw [hP]; exact o3
    · rw [hP]; exact fun y hy => (hyk y hy).1
    · rw [hP]; exact fun y hy => Nat.le_trans (hyk y hy).2 hL
    · rw [hP]; exact n1
    · rw [hP]; exact o4
    · rw [hP]; exact n3
    · rw [hP]; exact n4
    · rw [hP]; exact o5
    · rw [ptP, if_pos h0, hP]
      simp only [TxS.pl, Sq.D, hp]
theorem eqL_refl {α : Type} {f : α → α → Bool} (h : ∀ a, f a a = true) : ∀ l : List α, eqL f l l = true
  | [] => rfl
  | a :: l => by rw [eqL, h, eqL_refl h l]; rfl
theorem mvEq_refl (a : Mv) : mvEq a a = true := by simp [mvEq, sEq]
theorem tdEq_refl (a : Td) : tdEq a a = true := by simp [tdEq]
theorem sqEq_refl (a : SqD) : sqEq a a = true := by simp [sqEq, sEq, eqL_refl tdEq_refl]
theorem eqL_my : ∀ {a b : List My}, a.map My.pl = b.map My.pl → eqL myEq a b = true
  | [], [], _ => rfl
  | [], _ :: _, h => by simp at h
  | _ :: _, [], h => by simp at h
  | x :: a, y :: b, h => by
    simp only [List.map_cons, List.cons.injEq] at h
    have e := h.1
    simp only [My.pl, Prod.mk.injEq] at e
    rw [eqL, eqL_my h.2]
    simp [myEq, byEq, e.1, e.2]
theorem sxEq_pl {t u : TxS} (h : t.pl = u.pl) : sxEq t.D u.D = true := by
  simp only [TxS.pl, TxP.mk.injEq] at h
  obtain ⟨h1, h2, h3, h4, h5, h6⟩ := h
  have e5 : t.D.sq = u.D.sq := h5
  have e1 : t.D.hh = u.D.hh := h1
  have e2 : t.D.hd = u.D.hd := h2
  have e3 : t.D.ms = u.D.ms := h3
  have e4 : t.D.hs = u.D.hs := h4
  have e6 : eqL myEq t.D.ys u.D.ys = true := eqL_my h6
  unfold sxEq
  rw [e1, e2, e3, e4, e5, e6, eqL_refl mvEq_refl, sqEq_refl]
  simp [sEq]
end Go.Proofs.Ytmcmapgllaopmaa.Cd
end

section
namespace Go.Proofs.Ytmcmapgllaopmaa.Cd
open Go.RowKit
set_option linter.unusedVariables false
/-- what came in -/
structure TxS.In (t : TxS) (G : Nat) (w : World) : Prop where
  ho : IdOk t.og
  hc : IdOk t.cu
  hM : RdS G 66 w t.A t.n t.C (t.ms.map Mv.cells)
  hMi : ∀ x ∈ t.ms, IdOk x.od ∧ IdOk x.nw ∧ x.nm.size ≤ 140737488351232 ∧ x.wy.size ≤ 140737488351232
  hT : RdT G w t.At t.nt t.Ct t.ts
  hTi : ∀ x ∈ t.ts, IdOk x.id
  hY : RdS G 33 w t.Am t.m t.Cm (t.ys.map My.cells)
  hYi : ∀ y ∈ t.ys, IdOk y.key ∧ RdG G w y.A y.n y.C y.l
  hn : t.n ≤ 5000000000000
  hm : t.m ≤ 5000000000000
  hnt : t.nt ≤ 5000000000000
  hhd : t.hd.size ≤ 140737488351232
  hbr : t.br.size ≤ 140737488351232
theorem TxS.In.below {t : TxS} {G : Nat} {w w' : World} (h : t.In G w) (hb : Below w.heap.size w w') (hG : G ≤ w.heap.size) : t.In G w' :=
  ⟨h.ho, h.hc, h.hM.below hb hG, h.hMi, h.hT.below hb hG, h.hTi, h.hY.below hb hG, fun y hy => ⟨(h.hYi y hy).1, (h.hYi y hy).2.below hb (Nat.le_refl _) hG⟩, h.hn, h.hm, h.hnt, h.hhd, h.hbr⟩
/-- not too much -/
structure TxS.Fw (t : TxS) : Prop where
  n : t.n < 100
  m : t.m < 100
  s : t.hd.size + t.br.size + 33 * t.nt < 80000
  ms : ∀ x ∈ t.ms, x.nm.size + x.wy.size < 80000
  ys : ∀ y ∈ t.ys, y.n < 80000
theorem TxS.In.rd {t : TxS} {G : Nat} {w : World} (h : t.In G w) (f : t.Fw) : t.Rd G w := by
  have h1 := f.n
  have h2 := f.m
  have h3 := f.s
  exact ⟨h.ho, h.hc, ⟨h.hM, fun m hm => ⟨(h.hMi m hm).1.1, (h.hMi m hm).2.1.1, by have := f.ms m hm; omega, by have := f.ms m hm; omega⟩⟩, fun x hx => ⟨(h.hMi x hx).1, (h.hMi x hx).2.1⟩, h.hT, h.hTi,
    ⟨h.hY, fun y hy => ⟨(h.hYi y hy).1.1, by have := f.ys y hy; omega, (h.hYi y hy).2⟩⟩, fun y hy => (h.hYi y hy).1, by omega, by omega, by omega, by omega, by omega⟩
theorem list_choose {α : Type} {f : α → List Value} {P : α → Prop} : ∀ cs : List (List Value), (∀ c ∈ cs, ∃ y, c = f y ∧ P y) → ∃ ys : List α, cs = ys.map f ∧ ∀ y ∈ ys, P y
  | [], _ => ⟨[], rfl, fun y hy => absurd hy (by simp)⟩
  | c :: cs, h => by
    obtain ⟨y, e, hy⟩ := h c (List.mem_cons_self ..)
    obtain ⟨ys, e2, hys⟩ := list_choose cs (fun d hd => h d (List.mem_cons_of_mem _ hd))
    exact ⟨y :: ys, by rw [e, e2]; rfl, fun z hz => by
      rcases List.mem_cons.1 hz with rfl | hz
      · exact hy
      · exact hys z hz⟩
theorem RdS.of_st {good : List Value → Prop} {sz b : Nat} {w : World} {a : Option Addr} {n c : Nat} {cs : List (List Value)} (h : Fr.IsSt good sz b w a n c cs) (hs : 0 < sz) (hb : 0 < b) : RdS w.heap.size sz w a n c cs ∧ (∀ x ∈ cs, x.length = sz ∧ good x) ∧ n * b ≤ 140737488351232 := by
  rcases h with ⟨rfl, rfl, rfl, rfl⟩ | ⟨x, rfl, hl, hc, hlen, hcell, hwf⟩
  · exact ⟨RdS.nil _ _ _, fun x hx => absurd hx (by simp), by omega⟩
  · have hcb : c ≤ c * b := Nat.le_mul_of_pos_right _ hb
    have hnb : n * b ≤ c * b := Nat.mul_le_mul_right _ hl
    refine ⟨⟨hlen, hl, by omega, fun c hc => (hwf c hc).1, fun h0 => ?_⟩, hwf, by omega⟩
    have h32 : (cs.getD 0 []).length = sz := (hwf _ (getD_memL (by omega))).1
    have hc0 := hcell 0 h0 0 ((cs.getD 0 [])[0]'(by omega)) (List.getElem?_eq_getElem (by omega))
    obtain ⟨bb, off, spot⟩ := x
    have hspot : spot = Option.none := by simpa [Addr.add] using World.cell?_spot hc0
    subst hspot
    refine ⟨bb, off, rfl, by simpa [Addr.add] using block_lt_of_cell hc0, fun i hi j v hj => ?_⟩
    have := hcell i hi j v hj
    rw [Addr.add_mid, Addr.add_mid] at this
    exact this
theorem idOk_of {q : List Int} (h : Fr.IsId q) : IdOk q := ⟨h.1, fun i hi => by
  have h2 := h.1
  have h3 := h.2 (q.getD i 0) (by rw [List.getD_eq_getElem?_getD, List.getElem?_eq_getElem (by omega)]; exact List.getElem_mem _)
  exact h3⟩
theorem RdG.of_ints {w : World} {a : Option Addr} {n c : Nat} {z : List Int} (h : Fr.IsInts .u8 1 w a n c z) : RdG w.heap.size w a n c z :=
  ⟨rd_of_ints h, fun x hx h0 => ((rd_of_ints h).cell x hx).1 h0⟩
theorem sq_of {w : World} {c : List Value} (h : Fr.GSeq w c) : ∃ (k : Int) (br : ByteArray) (og cu : List Int) (At : Option Addr) (nt Ct : Nat) (ts : List Td) (dn md : Int) (st : Bool),
    c = sqV k br og cu (.slice At nt Ct) dn md st ∧ br.size ≤ 140737488351232 ∧ IdOk og ∧ IdOk cu ∧ RdT w.heap.size w At nt Ct ts ∧ (∀ x ∈ ts, IdOk x.id) ∧ nt ≤ 5000000000000 ∧ (Lit.int .i64 k).wf = true ∧ (Lit.int .i64 dn).wf = true ∧ (Lit.int .i64 md).wf = true := by
  obtain ⟨k, br, og, cu, At, nt, Ct, y4, dn, md, st, rfl, hk, hbr, hog, hcu, hst, hdn, hmd⟩ := h
  obtain ⟨h1, h2, h3⟩ := RdS.of_st hst (by decide) (by decide)
  obtain ⟨ts, rfl, hts⟩ := list_choose (f := Td.cells) (P := fun t => IdOk t.id) y4 (fun c hc => by
    obtain ⟨-, k0, q1, rfl, -, hq⟩ := h2 c hc
    exact ⟨⟨k0, q1⟩, rfl, idOk_of hq⟩)
  exact ⟨k, br, og, cu, At, nt, Ct, ts, dn, md, st, rfl, hbr, idOk_of hog, idOk_of hcu, ⟨h1, fun t ht => (hts t ht).1⟩, hts, by omega, hk, hdn, hmd⟩
theorem txs_of {w : World} {c : List Value} (h : Fr.GTx w c) : ∃ t : TxS, c = t.V ∧ t.In w.heap.size w := by
  obtain ⟨hh, hd, A, n, C, y2, hs, x4, Am, m, Cm, y5, rfl, hhd, hM, hS, hY⟩ := h
  obtain ⟨k, br, og, cu, At, nt, Ct, ts, dn, md, st, rfl, hbr, ho, hc, hT, hTi, hnt, -⟩ := sq_of hS
  obtain ⟨a1, a2, a3⟩ := RdS.of_st hM (by decide) (by decide)
  obtain ⟨ms, rfl, hms⟩ := list_choose (f := Mv.cells) (P := fun x => IdOk x.od ∧ IdOk x.nw ∧ x.nm.size ≤ 140737488351232 ∧ x.wy.size ≤ 140737488351232) y2 (fun c hc => by
    obtain ⟨-, s0, q1, q2, s3, rfl, h0, h1, h2, h3⟩ := a2 c hc
    exact ⟨⟨s0, q1, q2, s3⟩, rfl, idOk_of h1, idOk_of h2, h0, h3⟩)
  obtain ⟨b1, b2, b3⟩ := RdS.of_st hY (by decide) (by decide)
  obtain ⟨ys, rfl, hys⟩ := list_choose (f := My.cells) (P := fun y => IdOk y.key ∧ RdG w.heap.size w y.A y.n y.C y.l) y5 (fun c hc => by
    obtain ⟨-, q0, a1, n1, c1, z1, rfl, h0, h1⟩ := b2 c hc
    exact ⟨⟨q0, a1, n1, c1, z1⟩, rfl, idOk_of h0, RdG.of_ints h1⟩)
  exact ⟨⟨hh, hd, A, n, C, ms, hs, k, br, og, cu, At, nt, Ct, ts, dn, md, st, Am, m, Cm, ys⟩, rfl, ho, hc, a1, hms, hT, hTi, b1, hys, by show n ≤ _; omega, by show m ≤ _; omega, hnt, hhd, hbr⟩
set_option maxRecDepth 100000 in
set_option maxHeartbeats 8000000 in
theorem few_any (t : TxS) (G : Nat) (w : World) (h : t.In G w) (hG : G ≤ w.heap.size) :
    Calls Try.prog 28 #[.agg t.V.toArray] w fun e w' => ∃ b : Bool, e = .returned (.bool b) ∧ (b = true → t.Fw) ∧ Below w.heap.size w w' := by
  have hb1 := (Below.refl w.heap.size w).alloc (Nat.le_refl _) (.cells t.V.toArray 68)
  have hr1 := row_newL w t.V 68 75 (TxS.V_len h.ho.1 h.hc.1)
  have hI := h.below hb1 hG
  have HB1 := Lib.hid hb1
  obtain ⟨hh, hd, A, n, C, ms, hs, k, br, og, cu, At, nt, Ct, ts, dn0, md, st, Am, m, Cm, ys⟩ := t
  have hta := tx_at (TxS.sq_len (t := ⟨hh, hd, A, n, C, ms, hs, k, br, og, cu, At, nt, Ct, ts, dn0, md, st, Am, m, Cm, ys⟩) h.ho.1 h.hc.1) (row_range hr1 (TxS.V_len h.ho.1 h.hc.1))
  have hsa := sq_at h.ho.1 h.hc.1 hta.sq
  have HI := Lib.hid hI
  have HMl : Hid (ms.length = n) := Lib.hid (by have := h.hM.len; simpa using this)
  have HYl : Hid (ys.length = m) := Lib.hid (by have := h.hY.len; simpa using this)
  have hn : n ≤ 5000000000000 := h.hn
  have hm : m ≤ 5000000000000 := h.hm
  have hnt : nt ≤ 5000000000000 := h.hnt
  have hhd : hd.size ≤ 140737488351232 := h.hhd
  have hbr : br.size ≤ 140737488351232 := h.hbr
  have hmax := h.hM.max
  have hcap := h.hM.cap
  have hmay := h.hY.max
  have hcay := h.hY.cap
  have HPost : Hid (∀ (b : Bool) (w' : World), (b = true → (⟨hh, hd, A, n, C, ms, hs, k, br, og, cu, At, nt, Ct, ts, dn0, md, st, Am, m, Cm, ys⟩ : TxS).Fw) → Below w.heap.size w w' → ((fun e w' => ∃ b : Bool, e = Ending.returned (.bool b) ∧ (b = true → (⟨hh, hd, A, n, C, ms, hs, k, br, og, cu, At, nt, Ct, ts, dn0, md, st, Am, m, Cm, ys⟩ : TxS).Fw) ∧ Below w.heap.size w w') (Ending.returned (.bool b)) w')) := Lib.hid (fun b w' e hb => ⟨b, rfl, e, hb⟩)
  generalize hPD : (fun e w' => ∃ b : Bool, e = Ending.returned (.bool b) ∧ (b = true → (⟨hh, hd, A, n, C, ms, hs, k, br, og, cu, At, nt, Ct, ts, dn0, md, st, Am, m, Cm, ys⟩ : TxS).Fw) ∧ Below w.heap.size w w') = PO at *
  have hc1 := hta.c1
  have hc2 := hta.c2
  have hc5 := hsa.c1
  have hc70 := hsa.td
  have hc74 := hta.mm
  rw [show 4 + 1 = 5 from rfl] at hc5
  rw [show 4 + 66 = 70 from rfl] at hc70
  generalize TxS.V _ = CM at *
  clear hPD hb1 hr1 hta hsa hI h
  go_enter Try.func28, Try.ntmps28
  go_upto_region 1 with (fail)
  generalize w.alloc (.cells CM.toArray 68) = wA at *
  generalize w.heap.size = X at *
  obtain ⟨N1, hN1⟩ : ∃ N1, N1 = hd.size + br.size := ⟨_, rfl⟩
  obtain ⟨N2, hN2⟩ : ∃ N2, N2 = 33 * nt := ⟨_, rfl⟩
  obtain ⟨N3, hN3⟩ : ∃ N3, N3 = N1 + N2 := ⟨_, rfl⟩
  have e1 : IntKind.i64.wrap ((hd.size : Int) + (br.size : Int)) = (N1 : Int) := by rw [IntWalk.i64_in _ (by omega)]; omega
  have e2 : IntKind.i64.wrap (33 * (nt : Int)) = (N2 : Int) := by rw [IntWalk.i64_in _ (by omega)]; omega
  have e3 : IntKind.i64.wrap ((N1 : Int) + (N2 : Int)) = (N3 : Int) := by rw [IntWalk.i64_in _ (by omega)]; omega
  have hN3b : N3 ≤ 500000000000000 := by omega
  have HN : Hid (N3 = hd.size + br.size + 33 * nt) := Lib.hid (by omega)
  have HC2 := Lib.hid hc2
  have HC74 := Lib.hid hc74
  clear hN1 hN2 hN3 hc74
  go_upto_region 2 with (fail)
  clear e1 e2 e3 hc1 hc5 hc70 hhd hbr hnt
  go_upto_block 0 with (fail)
  clear hc2
  go_cut [3] (fun s3 wx => ∃ nv : Nat, s3 = .int .i64 nv ∧ N3 ≤ nv ∧ nv ≤ 100000000000000000 ∧ Hid (n < 100 → ∀ x ∈ ms, x.nm.size + x.wy.size ≤ nv) ∧ Hid (∃ dn, wx = wA.drewN dn))
  case first =>
    go_wp2_with fail
    go_loopw [3, 4] (fun s3 s4 wr => ∃ (nv j : Nat), s3 = .int .i64 nv ∧ s4 = .int .i64 j ∧ j ≤ n ∧ j ≤ 100 ∧ N3 ≤ nv ∧ nv ≤ N3 + j * 281474976702464 ∧ Hid (∀ i, i < j → (ms.getD i default).nm.size + (ms.getD i default).wy.size ≤ nv) ∧ Hid (∃ dn, wr = wA.drewN dn)) (fun _ s4 _ => n - (intOf s4).toNat)
    case atStart => exact ⟨N3, 0, rfl, rfl, Nat.zero_le _, by omega, Nat.le_refl _, by omega, Lib.hid (fun i hi => absurd hi (by omega)), Lib.hid ⟨0, rfl⟩⟩
    case round =>
      obtain ⟨nv, j, rfl, rfl, hj, hj1, hlo, hup, HS, HD⟩ := hrel
      have hc2 : wr.cell? ⟨X, 2, none⟩ = some (.slice A n C) := by obtain ⟨dn, e⟩ := HD.out; rw [e]; exact HC2.out
      by_cases hlt : j < n
      · have hd1 : (j : Int) < (n : Int) := by omega
        have hd2 : decide ((j : Int) < (n : Int)) = true := by simp; omega
        by_cases h100 : j < 100
        · have hd3 : (j : Int) < 100 := by omega
          have hd4 : decide ((j : Int) < 100) = true := by simp; omega
          obtain ⟨g, o, rfl, hgl, hcc⟩ := HI.out.hM.cell (show 0 < n by omega)
          obtain ⟨t, ht⟩ : ∃ t, t = ms.getD j default := ⟨_, rfl⟩
          have hrg := hcc j hlt
          rw [map_getD _ (by rw [HMl.out]; exact hlt), ← ht] at hrg
          have htm : t ∈ ms := by rw [ht]; exact getD_memI (by rw [HMl.out]; exact hlt)
          have hok := HI.out.hMi t htm
          have hat := mv_o hok.1.1 hok.2.1.1 hrg
          have hcn : wr.cell? ⟨g, o + j * 66, none⟩ = some (.string t.nm) := by obtain ⟨dn, e⟩ := HD.out; rw [e]; exact hat.nm
          have hcw : wr.cell? ⟨g, o + j * 66 + 65, none⟩ = some (.string t.wy) := by obtain ⟨dn, e⟩ := HD.out; rw [e]; exact hat.wy
          obtain ⟨a1, ha1⟩ : ∃ a1, a1 = t.nm.size := ⟨_, rfl⟩
          obtain ⟨a2, ha2⟩ : ∃ a2, a2 = t.wy.size := ⟨_, rfl⟩
          have hs1 := hok.2.2.1
          have hs2 := hok.2.2.2
          have hz0 : (0 : Int) ≤ (j : Int) := by omega
          obtain ⟨nm, hnm⟩ : ∃ nm, nm = t.nm := ⟨_, rfl⟩
          obtain ⟨wy, hwy⟩ : ∃ wy, wy = t.wy := ⟨_, rfl⟩
          rw [← hnm] at hcn hs1
          rw [← hwy] at hcw hs2
          obtain ⟨M1, hM1⟩ : ∃ M1, M1 = nv + nm.size := ⟨_, rfl⟩
          obtain ⟨M2, hM2⟩ : ∃ M2, M2 = M1 + wy.size := ⟨_, rfl⟩
          have hjb : j * 281474976702464 ≤ 100 * 281474976702464 := Nat.mul_le_mul_right _ hj1
          have e4 : IntKind.i64.wrap ((nv : Int) + (nm.size : Int)) = (M1 : Int) := by rw [IntWalk.i64_in _ (by omega)]; omega
          have e5 : IntKind.i64.wrap ((M1 : Int) + (wy.size : Int)) = (M2 : Int) := by rw [IntWalk.i64_in _ (by omega)]; omega
          have HS2 : Hid (∀ i, i < j + 1 → (ms.getD i default).nm.size + (ms.getD i default).wy.size ≤ M2) := Lib.hid (fun i hi => by
            by_cases e : i < j
            · have := HS.out i e; omega
            · obtain rfl : i = j := by omega
              rw [← ht, ← hnm, ← hwy]; omega)
          have HM2 : Hid (N3 ≤ M2 ∧ M2 ≤ N3 + (j + 1) * 281474976702464) := Lib.hid ⟨by omega, by rw [Nat.add_mul]; omega⟩
          clear hcc hrg htm hok hat HS ht ha1 ha2 hnm hwy hM1 hM2 hjb
          go_upto_region 5 with (fail)
          go_quiet (fail)
          go_wp2_with fail
          go_roundw
          case rel => exact ⟨M2, j + 1, rfl, by go_num, by omega, by omega, HM2.out.1, HM2.out.2, HS2, Lib.hid (by obtain ⟨dn, e⟩ := HD.out; exact ⟨dn + nq, by rw [e, World.drewN_drewN]⟩)⟩
          case measure => simp [intOf]; omega
        · have hd3 : ¬ (j : Int) < 100 := by omega
          have hd4 : decide ((j : Int) < 100) = false := by simp; omega
          have HR : Hid (n < 100 → ∀ x ∈ ms, x.nm.size + x.wy.size ≤ nv) := Lib.hid (fun h => absurd h (by omega))
          have hup2 : nv ≤ 100000000000000000 := by
            have hjb : j * 281474976702464 ≤ 100 * 281474976702464 := Nat.mul_le_mul_right _ hj1
            omega
          clear HS
          go_wp2_with fail
          go_meet
          exact ⟨nv, rfl, hlo, hup2, HR, HD⟩
      · have hd1 : ¬ (j : Int) < (n : Int) := by omega
        have hd2 : decide ((j : Int) < (n : Int)) = false := by simp; omega
        have HR : Hid (n < 100 → ∀ x ∈ ms, x.nm.size + x.wy.size ≤ nv) := Lib.hid (fun _ x hx => by
          obtain ⟨i, hi, rfl⟩ := List.getElem_of_mem hx
          have := HS.out i (by have := HMl.out; omega)
          simpa [List.getD, hi] using this)
        have hup2 : nv ≤ 100000000000000000 := by
          have hjb : j * 281474976702464 ≤ 100 * 281474976702464 := Nat.mul_le_mul_right _ hj1
          omega
        clear HS
        go_wp2_with fail
        go_meet
        exact ⟨nv, rfl, hlo, hup2, HR, HD⟩
  case rest =>
    obtain ⟨nv, rfl, hlo, hup, HF1, HD⟩ := hcut
    go_upto_block 2 with (fail)
    go_cut [3] (fun s3 wx => ∃ nz : Nat, s3 = .int .i64 nz ∧ nv ≤ nz ∧ nz ≤ 200000000000000000 ∧ Hid (m < 100 → ∀ y ∈ ys, y.n ≤ nz) ∧ wx = wc)
    case first =>
      go_wp2_with fail
      go_loopw [3, 5] (fun s3 s5 wr => ∃ (nz j : Nat), s3 = .int .i64 nz ∧ s5 = .int .i64 j ∧ j ≤ m ∧ j ≤ 100 ∧ nv ≤ nz ∧ nz ≤ nv + j * 281474976702464 ∧ Hid (∀ i, i < j → (ys.getD i default).n ≤ nz) ∧ wr = wc) (fun _ s5 _ => m - (intOf s5).toNat)
      case atStart => exact ⟨nv, 0, rfl, rfl, Nat.zero_le _, by omega, Nat.le_refl _, by omega, Lib.hid (fun i hi => absurd hi (by omega)), rfl⟩
      case round =>
        obtain ⟨nz, j, rfl, rfl, hj, hj1, hlo2, hup2, HS, hwr⟩ := hrel
        subst hwr
        have hc74 : wr.cell? ⟨X, 74, none⟩ = some (.slice Am m Cm) := by obtain ⟨dn, e⟩ := HD.out; rw [e]; exact HC74.out
        by_cases hlt : j < m
        · have hd1 : (j : Int) < (m : Int) := by omega
          have hd2 : decide ((j : Int) < (m : Int)) = true := by simp; omega
          by_cases h100 : j < 100
          · have hd3 : (j : Int) < 100 := by omega
            have hd4 : decide ((j : Int) < 100) = true := by simp; omega
            obtain ⟨g, o, rfl, hgl, hcc⟩ := HI.out.hY.cell (show 0 < m by omega)
            obtain ⟨t, ht⟩ : ∃ t, t = ys.getD j default := ⟨_, rfl⟩
            have hrg := hcc j hlt
            rw [map_getD _ (by rw [HYl.out]; exact hlt), ← ht] at hrg
            have htm : t ∈ ys := by rw [ht]; exact getD_memI (by rw [HYl.out]; exact hlt)
            have hok := HI.out.hYi t htm
            have hat := my_o hok.1.1 hrg
            have hcn : wr.cell? ⟨g, o + j * 33 + 32, none⟩ = some (.slice t.A t.n t.C) := by obtain ⟨dn, e⟩ := HD.out; rw [e]; exact hat.data
            have hs1 : t.n ≤ 140737488355328 := hok.2.rd.big
            have hz0 : (0 : Int) ≤ (j : Int) := by omega
            obtain ⟨yA, hyA⟩ : ∃ yA, yA = t.A := ⟨_, rfl⟩
            obtain ⟨yn, hyn⟩ : ∃ yn, yn = t.n := ⟨_, rfl⟩
            obtain ⟨yC, hyC⟩ : ∃ yC, yC = t.C := ⟨_, rfl⟩
            rw [← hyA, ← hyn, ← hyC] at hcn
            rw [← hyn] at hs1
            obtain ⟨M1, hM1⟩ : ∃ M1, M1 = nz + yn := ⟨_, rfl⟩
            have hjb : j * 281474976702464 ≤ 100 * 281474976702464 := Nat.mul_le_mul_right _ hj1
            have e4 : IntKind.i64.wrap ((nz : Int) + (yn : Int)) = (M1 : Int) := by rw [IntWalk.i64_in _ (by omega)]; omega
            have HS2 : Hid (∀ i, i < j + 1 → (ys.getD i default).n ≤ M1) := Lib.hid (fun i hi => by
              by_cases e : i < j
              · have := HS.out i e; omega
              · obtain rfl : i = j := by omega
                rw [← ht, ← hyn]; omega)
            have HM2 : Hid (nv ≤ M1 ∧ M1 ≤ nv + (j + 1) * 281474976702464) := Lib.hid ⟨by omega, by rw [Nat.add_mul]; omega⟩
            clear hcc hrg htm hok hat HS ht hyA hyn hyC hM1 hjb
            go_wp2_with fail
            go_roundw
            case rel => exact ⟨M1, j + 1, rfl, by go_num, by omega, by omega, HM2.out.1, HM2.out.2, HS2, trivial⟩
            case measure => simp [intOf]; omega
          · have hd3 : ¬ (j : Int) < 100 := by omega
            have hd4 : decide ((j : Int) < 100) = false := by simp; omega
            have HR : Hid (m < 100 → ∀ y ∈ ys, y.n ≤ nz) := Lib.hid (fun h => absurd h (by omega))
            have hup3 : nz ≤ 200000000000000000 := by
              have hjb : j * 281474976702464 ≤ 100 * 281474976702464 := Nat.mul_le_mul_right _ hj1
              omega
            clear HS
            go_wp2_with fail
            go_meet
            exact ⟨nz, rfl, hlo2, hup3, HR, rfl⟩
        · have hd1 : ¬ (j : Int) < (m : Int) := by omega
          have hd2 : decide ((j : Int) < (m : Int)) = false := by simp; omega
          have HR : Hid (m < 100 → ∀ y ∈ ys, y.n ≤ nz) := Lib.hid (fun _ x hx => by
            obtain ⟨i, hi, rfl⟩ := List.getElem_of_mem hx
            have := HS.out i (by have := HYl.out; omega)
            simpa [List.getD, hi] using this)
          have hup3 : nz ≤ 200000000000000000 := by
            have hjb : j * 281474976702464 ≤ 100 * 281474976702464 := Nat.mul_le_mul_right _ hj1
            omega
          clear HS
          go_wp2_with fail
          go_meet
          exact ⟨nz, rfl, hlo2, hup3, HR, rfl⟩
    case rest =>
      obtain ⟨nz, rfl, hlo2, hup2, HF2, hwx⟩ := hcut
      subst hwx
      have hc2 : wc.cell? ⟨X, 2, none⟩ = some (.slice A n C) := by obtain ⟨dn, e⟩ := HD.out; rw [e]; exact HC2.out
      have hc74 : wc.cell? ⟨X, 74, none⟩ = some (.slice Am m Cm) := by obtain ⟨dn, e⟩ := HD.out; rw [e]; exact HC74.out
      have HBx : Hid (Below X w wc) := Lib.hid (by obtain ⟨dn, e⟩ := HD.out; rw [e]; exact ⟨HB1.out.os, HB1.out.tape, HB1.out.output, HB1.out.size, HB1.out.block⟩)
      by_cases g1 : nz < 80000
      · have hd1 : decide ((nz : Int) < 80000) = true := by simp; omega
        by_cases g2 : n < 100
        · have hd2 : decide ((n : Int) < 100) = true := by simp; omega
          by_cases g3 : m < 100
          · have hd3 : decide ((m : Int) < 100) = true := by simp; omega
            have HFw : Hid ((⟨hh, hd, A, n, C, ms, hs, k, br, og, cu, At, nt, Ct, ts, dn0, md, st, Am, m, Cm, ys⟩ : TxS).Fw) := Lib.hid ⟨g2, g3, by have := HN.out; show hd.size + br.size + 33 * nt < 80000; omega, fun x hx => by have := HF1.out g2 x hx; omega, fun y hy => by have := HF2.out g3 y hy; omega⟩
            clear HF1 HF2
            go_wp2_with fail
            exact HPost.out true _ (fun _ => HFw.out) HBx.out
          · have hd3 : decide ((m : Int) < 100) = false := by simp; omega
            clear HF1 HF2
            go_wp2_with fail
            exact HPost.out false _ (fun h => by cases h) HBx.out
        · have hd2 : decide ((n : Int) < 100) = false := by simp; omega
          clear HF1 HF2
          go_wp2_with fail
          exact HPost.out false _ (fun h => by cases h) HBx.out
      · have hd1 : decide ((nz : Int) < 80000) = false := by simp; omega
        clear HF1 HF2
        go_wp2_with fail
        exact HPost.out false _ (fun h => by cases h) HBx.out
end Go.Proofs.Ytmcmapgllaopmaa.Cd
end

section
namespace Go.Proofs.Ytmcmapgllaopmaa.Cd
open Go.RowKit
set_option linter.unusedVariables false
theorem own_b0 (w : World) : (w.alloc (.cells #[] 5)).ownsRow w.heap.size 5 1 (.slice (some ⟨w.heap.size, 0, none⟩) 0 0) 0 (bv []) :=
  ⟨rfl, .inr ⟨w.heap.size, 0, #[], rfl, Nat.le_refl _, by show (w.heap.push _)[w.heap.size]? = _; simp, Nat.le_refl _, Nat.zero_le _, rfl, rfl⟩⟩
end Go.Proofs.Ytmcmapgllaopmaa.Cd
end

section
namespace Go.Proofs.Ytmcmapgllaopmaa.Cd
open Go.RowKit
set_option linter.unusedVariables false
theorem RdS.up {G G' sz : Nat} {w : World} {A : Option Addr} {n C : Nat} {cs : List (List Value)} (h : RdS G sz w A n C cs) (hG : G ≤ G') : RdS G' sz w A n C cs :=
  ⟨h.len, h.cap, h.max, h.size, fun h0 => by
    obtain ⟨g, o, h1, h2, h3⟩ := h.cell h0
    exact ⟨g, o, h1, Nat.lt_of_lt_of_le h2 hG, h3⟩⟩
theorem TxS.Rd.up {t : TxS} {G G' : Nat} {w : World} (h : t.Rd G w) (hG : G ≤ G') : t.Rd G' w :=
  ⟨h.ho, h.hc, ⟨h.hM.rd.up hG, h.hM.ok⟩, h.hMi, ⟨h.hT.rd.up hG, h.hT.ok⟩, h.hTi, ⟨h.hY.rd.up hG, fun y hy => ⟨(h.hY.ok y hy).1, (h.hY.ok y hy).2.1, ⟨(h.hY.ok y hy).2.2.rd, fun x hx h0 => Nat.lt_of_lt_of_le ((h.hY.ok y hy).2.2.lt x hx h0) hG⟩⟩⟩, h.hYi, h.hn, h.hm, h.hnt, h.hhd, h.hbr⟩
/-- all that is read lies in this world -/
def TxS.Now (t : TxS) (w : World) : Prop := t.Rd w.heap.size w
theorem TxS.Now.next {t : TxS} {w w' : World} (h : t.Now w) (hb : Below w.heap.size w w') : t.Now w' := (TxS.Rd.below h hb (Nat.le_refl _)).up hb.size
def TxS.InN (t : TxS) (w : World) : Prop := ∃ G, G ≤ w.heap.size ∧ t.In G w
theorem TxS.InN.next {t : TxS} {w w' : World} (h : t.InN w) (hb : Below w.heap.size w w') : t.InN w' := by
  obtain ⟨G, hG, h⟩ := h
  exact ⟨G, Nat.le_trans hG hb.size, h.below hb hG⟩
theorem TxS.InN.now {t : TxS} {w : World} (h : t.InN w) (f : t.Fw) : t.Now w := by
  obtain ⟨G, hG, h⟩ := h
  exact (h.rd f).up hG
theorem TxS.InN.len {t : TxS} {w : World} (h : t.InN w) : t.V.length = 75 := by
  obtain ⟨G, hG, h⟩ := h
  exact TxS.V_len h.ho.1 h.hc.1
theorem TxS.Now.len {t : TxS} {w : World} (h : t.Now w) : t.V.length = 75 := TxS.V_len h.ho.1 h.hc.1
theorem TxS.InN.few {t : TxS} {w : World} (h : t.InN w) : Calls Try.prog 28 #[.agg t.V.toArray] w fun e w' => ∃ b : Bool, e = .returned (.bool b) ∧ (b = true → t.Fw) ∧ Below w.heap.size w w' := by
  obtain ⟨G, hG, h⟩ := h
  exact few_any t G w h hG
/-- a transaction's bytes, none if it may not be -/
def txBb (t : TxD) : List Int := if txE t = 0 then txB t else []
theorem TxRet.flat {t : TxD} {w w' : World} {e : Ending} (h : TxRet t w e w') : Below w.heap.size w w' ∧ ∃ A n C, e = .returned (.tuple #[.slice A n C, .int .i64 (txE t)]) ∧ w'.ownsRow w.heap.size 5 1 (.slice A n C) n (bv (txBb t)) := by
  obtain ⟨hb, ⟨h0, rfl⟩ | ⟨h0, A, C, rfl, ho⟩⟩ := h
  · exact ⟨hb, none, 0, 0, rfl, by rw [txBb, if_neg h0]; exact own_none' w' _⟩
  · exact ⟨hb, A, (txB t).length, C, by rw [h0], by rw [txBb, if_pos h0]; exact ho⟩
/-- a transaction laid in a block of its own -/
theorem tx_lay (w : World) (D : List Value) (hl : D.length = 75) (h1 : ∀ v ∈ D, v.oneCell' = true) (Z : Array Value) (hZ : Z.size = 75) :
    Fin w w.heap.size (w.alloc (.cells Z 68)) w.heap.size 68 D ∧ ((w.alloc (.cells Z 68)).setCells w.heap.size 0 D).rangeAt w.heap.size 0 D := lay_new w 68 75 Z D infoTx hZ hl h1
set_option maxRecDepth 100000 in
set_option maxHeartbeats 8000000 in
theorem walk_txs (w : World) (t : TxS) (h0 : t.InN w) (a1 : Option Addr) (len1 cap1 : Nat) (z1 : List Int) (w1 : RdB w a1 len1 cap1 z1) (u : TxS) (h2 : u.InN w) :
    Calls Try.prog 6 #[.agg t.V.toArray, .slice a1 len1 cap1, .agg u.V.toArray] w fun e w' => e = .returned (.bool true) ∧ Below w.heap.size w w' := by
  have hlt := h0.len
  have hlu := h2.len
  have hb0 := (Below.refl w.heap.size w).alloc (Nat.le_refl _) (.cells t.V.toArray 68)
  have hb1 := hb0.alloc hb0.size (.cells u.V.toArray 68)
  have hrt := row_range (row_newL w t.V 68 75 hlt) hlt
  have hru := row_range (row_newL (w.alloc (.cells t.V.toArray 68)) u.V 68 75 hlu) hlu
  have hs1 : (w.alloc (.cells t.V.toArray 68)).heap.size = w.heap.size + 1 := by show (w.heap.push _).size = _; simp
  have hb01 := (Below.refl (w.alloc (.cells t.V.toArray 68)).heap.size (w.alloc (.cells t.V.toArray 68))).alloc (Nat.le_refl _) (.cells u.V.toArray 68)
  have HPT := Lib.hid (range_below hb01 hrt (by omega))
  have HPU := Lib.hid hru
  rw [hs1] at HPU
  have HT := Lib.hid (h0.next hb1)
  have HU := Lib.hid (h2.next hb1)
  have HB := Lib.hid (w1.below hb1)
  have HBl := Lib.hid hb1
  have HK := Lib.hid (known_any ((w.alloc (.cells t.V.toArray 68)).alloc (.cells u.V.toArray 68)))
  have HF1 := Lib.hid (fun (W : World) (h : t.InN W) => h.few)
  have HF2 := Lib.hid (fun (W : World) (h : u.InN W) => h.few)
  have HE1 := Lib.hid (fun (W : World) (h : t.Now W) => TxS.encode h (Nat.le_refl _))
  have HE2 := Lib.hid (fun (W : World) (h : t.Now W) => TxS.rencode h (Nat.le_refl _))
  have HS1 := Lib.hid (fun (W : World) (h : t.Now W) (k : u.Now W) => TxS.same h k (Nat.le_refl _))
  have HS2 := Lib.hid (fun (W : World) (h : t.Now W) (k : u.Now W) => TxS.rsame h k (Nat.le_refl _))
  have HS3 := Lib.hid (fun (W : World) (h : t.Now W) => TxS.same h h (Nat.le_refl _))
  have hSz1 : (Try.prog.info? 68).map (·.size) = some t.V.length := by rw [hlt]; exact infoTx
  have hSz2 : (Try.prog.info? 68).map (·.size) = some u.V.length := by rw [hlu]; exact infoTx
  have HSz1 := Lib.hid hSz1
  have HSz2 := Lib.hid hSz2
  have HLt := Lib.hid hlt
  have HLu := Lib.hid hlu
  have hlen1 := w1.len
  have HBy := Lib.hid w1.byte
  have hbig1 := w1.big
  clear hlt hlu hb0 hb1 hrt hru hs1 hb01 h0 h2 w1 hSz1 hSz2
  generalize t.V = DT at *
  generalize u.V = DU at *
  go_enter Try.func6, Try.ntmps6
  have hag1 : (Value.agg DT.toArray).cells = DT.toArray := rfl
  have hag2 : (Value.agg DU.toArray).cells = DU.toArray := rfl
  go_upto_region 1 with (fail)
  clear hag1 hag2
  generalize (w.alloc (.cells DT.toArray 68)).alloc (.cells DU.toArray 68) = wA at *
  obtain ⟨PU, hPU⟩ : ∃ PU, PU = w.heap.size + 1 := ⟨_, rfl⟩
  rw [← hPU] at HPU ⊢
  obtain ⟨PT, hPT⟩ : ∃ PT, PT = w.heap.size := ⟨_, rfl⟩
  rw [← hPT] at HPT ⊢
  clear hPU hPT
  go_wp2_with fail
  refine HK.out.mono ?_
  rintro e w2 ⟨rfl, hb⟩
  clear HK
  have e_HBl := Lib.hid (HBl.out.trans (hb.mono HBl.out.size))
  have e_HPT := Lib.hid (range_below hb HPT.out (HPT.out.lt_of (by rw [HLt.out]; decide)))
  have e_HPU := Lib.hid (range_below hb HPU.out (HPU.out.lt_of (by rw [HLu.out]; decide)))
  have e_HT := Lib.hid (HT.out.next hb)
  have e_HU := Lib.hid (HU.out.next hb)
  have e_HB := Lib.hid (HB.out.below hb)
  clear HBl HPT HPU HT HU HB
  have HBl := e_HBl
  have HPT := e_HPT
  have HPU := e_HPU
  have HT := e_HT
  have HU := e_HU
  have HB := e_HB
  clear e_HBl e_HPT e_HPU e_HT e_HU e_HB
  clear hb
  have HC := Lib.hid (HF1.out w2 HT.out)
  go_wp2_with (first
    | (refine wpList_load_g (by rfl) _ _ rfl PT 0 rfl DT _ HPT.out Try.underlying68 rfl HSz1.out ?_)
    | (refine wpList_load_g (by rfl) _ _ rfl PU 0 rfl DU _ HPU.out Try.underlying68 rfl HSz2.out ?_))
  refine HC.out.mono ?_
  rintro e w3 ⟨b1, rfl, hf1, hb⟩
  have HFw1 := Lib.hid hf1
  clear HC hf1
  have e_HBl := Lib.hid (HBl.out.trans (hb.mono HBl.out.size))
  have e_HPT := Lib.hid (range_below hb HPT.out (HPT.out.lt_of (by rw [HLt.out]; decide)))
  have e_HPU := Lib.hid (range_below hb HPU.out (HPU.out.lt_of (by rw [HLu.out]; decide)))
  have e_HT := Lib.hid (HT.out.next hb)
  have e_HU := Lib.hid (HU.out.next hb)
  have e_HB := Lib.hid (HB.out.below hb)
  clear HBl HPT HPU HT HU HB
  have HBl := e_HBl
  have HPT := e_HPT
  have HPU := e_HPU
  have HT := e_HT
  have HU := e_HU
  have HB := e_HB
  clear e_HBl e_HPT e_HPU e_HT e_HU e_HB
  clear hb
  cases b1
  · go_wp2_with fail
    go_ret
    exact ⟨rfl, HBl.out⟩
  · have HC := Lib.hid (HF2.out w3 HU.out)
    go_wp2_with (first
      | (refine wpList_load_g (by rfl) _ _ rfl PT 0 rfl DT _ HPT.out Try.underlying68 rfl HSz1.out ?_)
      | (refine wpList_load_g (by rfl) _ _ rfl PU 0 rfl DU _ HPU.out Try.underlying68 rfl HSz2.out ?_))
    refine HC.out.mono ?_
    rintro e w4 ⟨b2, rfl, hf2, hb⟩
    have HFw2 := Lib.hid hf2
    clear HC hf2
    have e_HBl := Lib.hid (HBl.out.trans (hb.mono HBl.out.size))
    have e_HPT := Lib.hid (range_below hb HPT.out (HPT.out.lt_of (by rw [HLt.out]; decide)))
    have e_HPU := Lib.hid (range_below hb HPU.out (HPU.out.lt_of (by rw [HLu.out]; decide)))
    have e_HT := Lib.hid (HT.out.next hb)
    have e_HU := Lib.hid (HU.out.next hb)
    have e_HB := Lib.hid (HB.out.below hb)
    clear HBl HPT HPU HT HU HB
    have HBl := e_HBl
    have HPT := e_HPT
    have HPU := e_HPU
    have HT := e_HT
    have HU := e_HU
    have HB := e_HB
    clear e_HBl e_HPT e_HPU e_HT e_HU e_HB
    clear hb
    cases b2
    · go_wp2_with fail
      go_ret
      exact ⟨rfl, HBl.out⟩
    · by_cases gb : 32768 < len1
      · have hdb : decide ((32768 : Int) < (len1 : Int)) = true := by simp; omega
        go_wp2_with fail
        go_ret
        exact ⟨rfl, HBl.out⟩
      have hdb : decide ((32768 : Int) < (len1 : Int)) = false := by simp; omega
      have eT := Lib.hid (HT.out.now (HFw1.out (by first | rfl | trivial)))
      have eU := Lib.hid (HU.out.now (HFw2.out (by first | rfl | trivial)))
      clear HT HU HFw1 HFw2 HF1 HF2
      have HT := eT
      have HU := eU
      clear eT eU
      go_upto_region 5 with (fail)
      clear hdb
      have HC := Lib.hid (HE1.out w4 HT.out)
      go_wp2_with (refine wpList_load_g (by rfl) _ _ rfl PT 0 rfl DT _ HPT.out Try.underlying68 rfl HSz1.out ?_)
      refine HC.out.mono ?_
      intro e w5 hr
      obtain ⟨hb, Ax, nx, Cx, rfl, hox⟩ := hr.flat
      have HX := Lib.hid hox
      clear HC hr hox HE1
      have e_HBl := Lib.hid (HBl.out.trans (hb.mono HBl.out.size))
      have e_HPT := Lib.hid (range_below hb HPT.out (HPT.out.lt_of (by rw [HLt.out]; decide)))
      have e_HPU := Lib.hid (range_below hb HPU.out (HPU.out.lt_of (by rw [HLu.out]; decide)))
      have e_HT := Lib.hid (HT.out.next hb)
      have e_HU := Lib.hid (HU.out.next hb)
      have e_HB := Lib.hid (HB.out.below hb)
      clear HBl HPT HPU HT HU HB
      have HBl := e_HBl
      have HPT := e_HPT
      have HPU := e_HPU
      have HT := e_HT
      have HU := e_HU
      have HB := e_HB
      clear e_HBl e_HPT e_HPU e_HT e_HU e_HB
      clear hb
      have HC := Lib.hid (HE2.out w5 HT.out)
      go_wp2_with (refine wpList_load_g (by rfl) _ _ rfl PT 0 rfl DT _ HPT.out Try.underlying68 rfl HSz1.out ?_)
      refine HC.out.mono ?_
      intro e w6 hr
      obtain ⟨hb, Ay, ny, Cy, rfl, hoy⟩ := hr.flat
      have HY := Lib.hid hoy
      clear HC hr hoy HE2
      have e_HBl := Lib.hid (HBl.out.trans (hb.mono HBl.out.size))
      have e_HPT := Lib.hid (range_below hb HPT.out (HPT.out.lt_of (by rw [HLt.out]; decide)))
      have e_HPU := Lib.hid (range_below hb HPU.out (HPU.out.lt_of (by rw [HLu.out]; decide)))
      have e_HT := Lib.hid (HT.out.next hb)
      have e_HU := Lib.hid (HU.out.next hb)
      have e_HB := Lib.hid (HB.out.below hb)
      have e_HX := Lib.hid (own_keep HX.out hb)
      clear HBl HPT HPU HT HU HB HX
      have HBl := e_HBl
      have HPT := e_HPT
      have HPU := e_HPU
      have HT := e_HT
      have HU := e_HU
      have HB := e_HB
      have HX := e_HX
      clear e_HBl e_HPT e_HPU e_HT e_HU e_HB e_HX
      clear hb
      have hba := (Below.refl w6.heap.size w6).alloc (Nat.le_refl _) (.cells #[] 5)
      have HR7 := Lib.hid (HB.out.below hba)
      have HBa := Lib.hid hba
      have hs7 := al_le w6 (.cells #[] 5)
      clear hba
      go_wp2_with (refine wpList_append_rd _ rfl _ _ rfl w6.heap.size _ 0 [] rfl (own_b0 w6) a1 len1 cap1 z1 rfl HR7.out (by omega) hs7 ?_)
      intro A8 C8 w8 ho hg
      have hb := HBa.out.trans hg
      have HZ8 := Lib.hid (RdB.of_own2 (n := len1) (l := z1) ho (by omega) HBy.out)
      clear ho hg HR7 HBa hs7
      have e_HBl := Lib.hid (HBl.out.trans (hb.mono HBl.out.size))
      have e_HPT := Lib.hid (range_below hb HPT.out (HPT.out.lt_of (by rw [HLt.out]; decide)))
      have e_HPU := Lib.hid (range_below hb HPU.out (HPU.out.lt_of (by rw [HLu.out]; decide)))
      have e_HT := Lib.hid (HT.out.next hb)
      have e_HU := Lib.hid (HU.out.next hb)
      have e_HB := Lib.hid (HB.out.below hb)
      have e_HX := Lib.hid (own_keep HX.out hb)
      have e_HY := Lib.hid (own_keep HY.out hb)
      clear HBl HPT HPU HT HU HB HX HY
      have HBl := e_HBl
      have HPT := e_HPT
      have HPU := e_HPU
      have HT := e_HT
      have HU := e_HU
      have HB := e_HB
      have HX := e_HX
      have HY := e_HY
      clear e_HBl e_HPT e_HPU e_HT e_HU e_HB e_HX e_HY
      clear hb
      have HC := Lib.hid (parseTx_any A8 len1 C8 z1 w8 HZ8.out)
      go_wp2_with fail
      refine HC.out.mono ?_
      intro e w9 hr
      obtain ⟨hb, P, rfl, hPo, hPr, hPp⟩ := hr.flat hlen1 HBy.out (by omega)
      have HPr : Hid (P.Now w9) := Lib.hid hPr
      have HPp := Lib.hid hPp
      clear HC hr hPo hPr hPp HZ8
      have e_HBl := Lib.hid (HBl.out.trans (hb.mono HBl.out.size))
      have e_HPT := Lib.hid (range_below hb HPT.out (HPT.out.lt_of (by rw [HLt.out]; decide)))
      have e_HPU := Lib.hid (range_below hb HPU.out (HPU.out.lt_of (by rw [HLu.out]; decide)))
      have e_HT := Lib.hid (HT.out.next hb)
      have e_HU := Lib.hid (HU.out.next hb)
      have e_HB := Lib.hid (HB.out.below hb)
      have e_HX := Lib.hid (own_keep HX.out hb)
      have e_HY := Lib.hid (own_keep HY.out hb)
      clear HBl HPT HPU HT HU HB HX HY
      have HBl := e_HBl
      have HPT := e_HPT
      have HPU := e_HPU
      have HT := e_HT
      have HU := e_HU
      have HB := e_HB
      have HX := e_HX
      have HY := e_HY
      clear e_HBl e_HPT e_HPU e_HT e_HU e_HB e_HX e_HY
      clear hb
      have hZl : tx0.toArray.size = 75 := by rw [List.size_toArray, tx0_len]
      have hz := zeroTx
      have HSp := Lib.hid (fun (W : World) (Q : TxS) (h : P.Now W) (k : Q.Now W) => TxS.rsame h k (Nat.le_refl _))
      have hlp := HPr.out.len
      have hop := P.V_one
      obtain ⟨f1, f2⟩ := tx_lay w9 P.V hlp hop tx0.toArray hZl
      have HLp := Lib.hid hlp
      have HSz3 : Hid ((Try.prog.info? 68).map (·.size) = some P.V.length) := Lib.hid (by rw [hlp]; exact infoTx)
      have HFp := Lib.hid f1
      have HPP := Lib.hid f2
      clear hlp hop f1 f2
      generalize P.V = DP at *
      have HZl := Lib.hid hZl
      clear hZl
      generalize tx0.toArray = ZC at *
      go_upto_region 8 with (refine wpList_store_mid rfl _ _ _ rfl w9.heap.size 0 DP.toArray rfl rfl HFp.out.there HFp.out.size HFp.out.one ?_)
      change Code.wp _ _ _ _ ((w9.alloc (.cells ZC 68)).setCells w9.heap.size 0 DP)
      have hb := HFp.out.bel
      clear HFp
      generalize (w9.alloc (.cells ZC 68)).setCells w9.heap.size 0 DP = wB at *
      have e_HBl := Lib.hid (HBl.out.trans (hb.mono HBl.out.size))
      have e_HPT := Lib.hid (range_below hb HPT.out (HPT.out.lt_of (by rw [HLt.out]; decide)))
      have e_HPU := Lib.hid (range_below hb HPU.out (HPU.out.lt_of (by rw [HLu.out]; decide)))
      have e_HT := Lib.hid (HT.out.next hb)
      have e_HU := Lib.hid (HU.out.next hb)
      have e_HB := Lib.hid (HB.out.below hb)
      have e_HX := Lib.hid (own_keep HX.out hb)
      have e_HY := Lib.hid (own_keep HY.out hb)
      have e_HPr := Lib.hid (HPr.out.next hb)
      clear HBl HPT HPU HT HU HB HX HY HPr
      have HBl := e_HBl
      have HPT := e_HPT
      have HPU := e_HPU
      have HT := e_HT
      have HU := e_HU
      have HB := e_HB
      have HX := e_HX
      have HY := e_HY
      have HPr := e_HPr
      clear e_HBl e_HPT e_HPU e_HT e_HU e_HB e_HX e_HY e_HPr
      clear hb
      generalize w9.heap.size = PP at *
      have HC := Lib.hid (rparseTx_any a1 len1 cap1 z1 wB HB.out)
      go_wp2_with fail
      refine HC.out.mono ?_
      intro e w11 hr
      obtain ⟨hb, Q, rfl, hQo, hQr, hQp⟩ := hr.flat hlen1 HBy.out (by omega)
      have HQr : Hid (Q.Now w11) := Lib.hid hQr
      have hpq : sxEq P.D Q.D = true := sxEq_pl (HPp.out.trans hQp.symm)
      have HPQ := Lib.hid hpq
      clear HC hr hQo hQr hQp hpq HPp
      have e_HBl := Lib.hid (HBl.out.trans (hb.mono HBl.out.size))
      have e_HPT := Lib.hid (range_below hb HPT.out (HPT.out.lt_of (by rw [HLt.out]; decide)))
      have e_HPU := Lib.hid (range_below hb HPU.out (HPU.out.lt_of (by rw [HLu.out]; decide)))
      have e_HT := Lib.hid (HT.out.next hb)
      have e_HU := Lib.hid (HU.out.next hb)
      have e_HB := Lib.hid (HB.out.below hb)
      have e_HX := Lib.hid (own_keep HX.out hb)
      have e_HY := Lib.hid (own_keep HY.out hb)
      have e_HPr := Lib.hid (HPr.out.next hb)
      have e_HPP := Lib.hid (range_below hb HPP.out (HPP.out.lt_of (by rw [HLp.out]; decide)))
      clear HBl HPT HPU HT HU HB HX HY HPr HPP
      have HBl := e_HBl
      have HPT := e_HPT
      have HPU := e_HPU
      have HT := e_HT
      have HU := e_HU
      have HB := e_HB
      have HX := e_HX
      have HY := e_HY
      have HPr := e_HPr
      have HPP := e_HPP
      clear e_HBl e_HPT e_HPU e_HT e_HU e_HB e_HX e_HY e_HPr e_HPP
      clear hb
      have HSq := Lib.hid (fun (W : World) (h : P.Now W) (k : Q.Now W) => HSp.out W Q h k)
      have hlq := HQr.out.len
      have hoq := Q.V_one
      obtain ⟨f1, f2⟩ := tx_lay w11 Q.V hlq hoq ZC HZl.out
      have HLq := Lib.hid hlq
      have HSz4 : Hid ((Try.prog.info? 68).map (·.size) = some Q.V.length) := Lib.hid (by rw [hlq]; exact infoTx)
      have HFq := Lib.hid f1
      have HQQ := Lib.hid f2
      clear hlq hoq f1 f2 HSp
      generalize Q.V = DQ at *
      rw [HPQ.out] at HSq
      go_upto_region 9 with (refine wpList_store_mid rfl _ _ _ rfl w11.heap.size 0 DQ.toArray rfl rfl HFq.out.there HFq.out.size HFq.out.one ?_)
      change Code.wp _ _ _ _ ((w11.alloc (.cells ZC 68)).setCells w11.heap.size 0 DQ)
      have hb := HFq.out.bel
      clear HFq
      generalize (w11.alloc (.cells ZC 68)).setCells w11.heap.size 0 DQ = wC at *
      have e_HBl := Lib.hid (HBl.out.trans (hb.mono HBl.out.size))
      have e_HPT := Lib.hid (range_below hb HPT.out (HPT.out.lt_of (by rw [HLt.out]; decide)))
      have e_HPU := Lib.hid (range_below hb HPU.out (HPU.out.lt_of (by rw [HLu.out]; decide)))
      have e_HT := Lib.hid (HT.out.next hb)
      have e_HU := Lib.hid (HU.out.next hb)
      have e_HB := Lib.hid (HB.out.below hb)
      have e_HX := Lib.hid (own_keep HX.out hb)
      have e_HY := Lib.hid (own_keep HY.out hb)
      have e_HPr := Lib.hid (HPr.out.next hb)
      have e_HPP := Lib.hid (range_below hb HPP.out (HPP.out.lt_of (by rw [HLp.out]; decide)))
      have e_HQr := Lib.hid (HQr.out.next hb)
      clear HBl HPT HPU HT HU HB HX HY HPr HPP HQr
      have HBl := e_HBl
      have HPT := e_HPT
      have HPU := e_HPU
      have HT := e_HT
      have HU := e_HU
      have HB := e_HB
      have HX := e_HX
      have HY := e_HY
      have HPr := e_HPr
      have HPP := e_HPP
      have HQr := e_HQr
      clear e_HBl e_HPT e_HPU e_HT e_HU e_HB e_HX e_HY e_HPr e_HPP e_HQr
      clear hb
      generalize w11.heap.size = QQ at *
      have hEE : ∀ x : ByteArray, (x.toList == x.toList) = true := conv_eq
      have hse := conv_eq (sb (txBb t.D))
      clear hEE
      have hst : sxEq t.D t.D = true := sxEq_pl rfl
      rw [hst] at HS3
      clear hst hz
      obtain ⟨bx, hbx⟩ : ∃ bx, bx = sxEq t.D u.D := ⟨_, rfl⟩
      rw [← hbx] at HS1 HS2
      clear hbx
      generalize txE t.D = EE at *
      generalize xF z1 len1 = FF at *
      have HV1 := Lib.hid (conv_own' HX.out)
      have HV2 := Lib.hid (conv_own' HY.out)
      have HC13 := Lib.hid (HSq.out wC.drew (HPr.out.next (Below.refl _ _).drew) (HQr.out.next (Below.refl _ _).drew))
      have hbd : Below wC.heap.size wC wC.drew := (Below.refl _ _).drew
      have e_HBl := Lib.hid (HBl.out.trans (hbd.mono HBl.out.size))
      have e_HPT := Lib.hid (range_below hbd HPT.out (HPT.out.lt_of (by rw [HLt.out]; decide)))
      have e_HPU := Lib.hid (range_below hbd HPU.out (HPU.out.lt_of (by rw [HLu.out]; decide)))
      have e_HT := Lib.hid (HT.out.next hbd)
      have e_HU := Lib.hid (HU.out.next hbd)
      have e_HB := Lib.hid (HB.out.below hbd)
      have e_HX := Lib.hid (own_keep HX.out hbd)
      have e_HY := Lib.hid (own_keep HY.out hbd)
      have e_HPr := Lib.hid (HPr.out.next hbd)
      have e_HPP := Lib.hid (range_below hbd HPP.out (HPP.out.lt_of (by rw [HLp.out]; decide)))
      have e_HQr := Lib.hid (HQr.out.next hbd)
      have e_HQQ := Lib.hid (range_below hbd HQQ.out (HQQ.out.lt_of (by rw [HLq.out]; decide)))
      clear HBl HPT HPU HT HU HB HX HY HPr HPP HQr HQQ
      have HBl := e_HBl
      have HPT := e_HPT
      have HPU := e_HPU
      have HT := e_HT
      have HU := e_HU
      have HB := e_HB
      have HX := e_HX
      have HY := e_HY
      have HPr := e_HPr
      have HPP := e_HPP
      have HQr := e_HQr
      have HQQ := e_HQQ
      clear e_HBl e_HPT e_HPU e_HT e_HU e_HB e_HX e_HY e_HPr e_HPP e_HQr e_HQQ
      clear hbd HV1 HV2
      have HV1 := Lib.hid (conv_own' HX.out)
      have HV2 := Lib.hid (conv_own' HY.out)
      generalize hSB : sb (txBb t.D) = SB at *
      have HSB := Lib.hid hSB
      clear hSB
      refine wp_region_noPanic ?_
      refine wp_region_held_drew (S := (fun wS => wS.rangeAt PP 0 DP ∧ wS.rangeAt QQ 0 DQ ∧ wS.rangeAt PT 0 DT ∧ wS.rangeAt PU 0 DU ∧ (convert 23 9 (.slice Ax nx Cx)).run Try.prog wS = .ok (.string SB) wS ∧ (convert 23 9 (.slice Ay ny Cy)).run Try.prog wS = .ok (.string SB) wS)) (by kernel_rfl) ?_ (fun hHeld => ?_)
      · ((try dsimp only); exact ⟨HPP.out, HQQ.out, HPT.out, HPU.out, HV1.out, HV2.out⟩)
      refine wpAnyH_take (i := 0) (oi := { dst := some 52, op := Op.move (Operand.tmp 7), type := 23, pos := "law.go:112", after := #[], guard := none }) (v := ?_) rfl (by kernel_rfl) (by kernel_rfl) (by kernel_rfl) (fun _ _ _ h => h) (Or.inl ⟨by rfl, ?_⟩) (by assumption) ?_
      rotate_left 1
      · ((intro w hSw; (try dsimp only at hSw); go_simp) <;> with_reducible rfl)
      (try simp only [Act.put, List.setIfInBounds_toArray, List.set_cons_zero, List.set_cons_succ])
      refine wpAnyH_take (i := 1) (oi := { dst := some 53, op := Op.convert 23 9 (Operand.tmp 52), type := 9, pos := "law.go:112", after := #[{ on := 0, ground := Ground.data }], guard := none }) (v := ?_) rfl (by kernel_rfl) (by kernel_rfl) (by kernel_rfl) (fun _ _ _ h => h) (Or.inl ⟨by rfl, ?_⟩) (by assumption) ?_
      rotate_left 1
      · ((intro w hSw; (try dsimp only at hSw); go_simp) <;> with_reducible rfl)
      (try simp only [Act.put, List.setIfInBounds_toArray, List.set_cons_zero, List.set_cons_succ])
      refine wpAnyH_take (i := 2) (oi := { dst := some 54, op := Op.move (Operand.tmp 9), type := 23, pos := "law.go:112", after := #[], guard := none }) (v := ?_) rfl (by kernel_rfl) (by kernel_rfl) (by kernel_rfl) (fun _ _ _ h => h) (Or.inl ⟨by rfl, ?_⟩) (by assumption) ?_
      rotate_left 1
      · ((intro w hSw; (try dsimp only at hSw); go_simp) <;> with_reducible rfl)
      (try simp only [Act.put, List.setIfInBounds_toArray, List.set_cons_zero, List.set_cons_succ])
      refine wpAnyH_take (i := 3) (oi := { dst := some 55, op := Op.convert 23 9 (Operand.tmp 54), type := 9, pos := "law.go:112", after := #[{ on := 2, ground := Ground.data }], guard := none }) (v := ?_) rfl (by kernel_rfl) (by kernel_rfl) (by kernel_rfl) (fun _ _ _ h => h) (Or.inl ⟨by rfl, ?_⟩) (by assumption) ?_
      rotate_left 1
      · ((intro w hSw; (try dsimp only at hSw); go_simp) <;> with_reducible rfl)
      (try simp only [Act.put, List.setIfInBounds_toArray, List.set_cons_zero, List.set_cons_succ])
      refine wpAnyH_take (i := 4) (oi := { dst := some 56, op := Op.binOp BinOp.eql 9 (Operand.tmp 53) (Operand.tmp 55) 9, type := 4, pos := "law.go:112", after := #[{ on := 1, ground := Ground.data }, { on := 3, ground := Ground.data }], guard := none }) (v := ?_) rfl (by kernel_rfl) (by kernel_rfl) (by kernel_rfl) (fun _ _ _ h => h) (Or.inl ⟨by rfl, ?_⟩) (by assumption) ?_
      rotate_left 1
      · ((intro w hSw; (try dsimp only at hSw); go_simp) <;> with_reducible rfl)
      (try simp only [Act.put, List.setIfInBounds_toArray, List.set_cons_zero, List.set_cons_succ])
      refine wpAnyH_take (i := 5) (oi := { dst := some 57, op := Op.move (Operand.tmp 56), type := 4, pos := "law.go:112", after := #[{ on := 4, ground := Ground.data }], guard := none }) (v := ?_) rfl (by kernel_rfl) (by kernel_rfl) (by kernel_rfl) (fun _ _ _ h => h) (Or.inl ⟨by rfl, ?_⟩) (by assumption) ?_
      rotate_left 1
      · ((intro w hSw; (try dsimp only at hSw); go_simp) <;> with_reducible rfl)
      (try simp only [Act.put, List.setIfInBounds_toArray, List.set_cons_zero, List.set_cons_succ])
      refine wpAnyH_take (i := 6) (oi := { dst := some 58, op := Op.move (Operand.tmp 8), type := 25, pos := "law.go:112", after := #[{ on := 5, ground := Ground.guard }], guard := some (5, true) }) (v := ?_) rfl (by kernel_rfl) (by kernel_rfl) (by kernel_rfl) (fun _ _ _ h => h) (Or.inl ⟨by rfl, ?_⟩) (by assumption) ?_
      rotate_left 1
      · ((intro w hSw; (try dsimp only at hSw); go_simp) <;> with_reducible rfl)
      (try simp only [Act.put, List.setIfInBounds_toArray, List.set_cons_zero, List.set_cons_succ])
      refine wpAnyH_take (i := 7) (oi := { dst := some 59, op := Op.move (Operand.tmp 10), type := 3, pos := "law.go:112", after := #[{ on := 5, ground := Ground.guard }], guard := some (5, true) }) (v := ?_) rfl (by kernel_rfl) (by kernel_rfl) (by kernel_rfl) (fun _ _ _ h => h) (Or.inl ⟨by rfl, ?_⟩) (by assumption) ?_
      rotate_left 1
      · ((intro w hSw; (try dsimp only at hSw); go_simp) <;> with_reducible rfl)
      (try simp only [Act.put, List.setIfInBounds_toArray, List.set_cons_zero, List.set_cons_succ])
      refine wpAnyH_take (i := 8) (oi := { dst := some 60, op := Op.binOp BinOp.eql 3 (Operand.tmp 58) (Operand.tmp 59) 3, type := 4, pos := "law.go:112", after := #[{ on := 6, ground := Ground.data }, { on := 7, ground := Ground.data }, { on := 5, ground := Ground.guard }], guard := some (5, true) }) (v := ?_) rfl (by kernel_rfl) (by kernel_rfl) (by kernel_rfl) (fun _ _ _ h => h) (Or.inl ⟨by rfl, ?_⟩) (by assumption) ?_
      rotate_left 1
      · ((intro w hSw; (try dsimp only at hSw); go_simp) <;> with_reducible rfl)
      (try simp only [Act.put, List.setIfInBounds_toArray, List.set_cons_zero, List.set_cons_succ])
      refine wpAnyH_take (i := 9) (oi := { dst := some 61, op := Op.pick (Operand.tmp 57) (Operand.tmp 60) (Operand.const (Value.bool false)), type := 4, pos := "law.go:112", after := #[{ on := 5, ground := Ground.data }, { on := 8, ground := Ground.data }], guard := none }) (v := ?_) rfl (by kernel_rfl) (by kernel_rfl) (by kernel_rfl) (fun _ _ _ h => h) (Or.inl ⟨by rfl, ?_⟩) (by assumption) ?_
      rotate_left 1
      · ((intro w hSw; (try dsimp only at hSw); go_simp) <;> with_reducible rfl)
      (try simp only [Act.put, List.setIfInBounds_toArray, List.set_cons_zero, List.set_cons_succ])
      refine wpAnyH_take (i := 10) (oi := { dst := some 62, op := Op.move (Operand.tmp 61), type := 4, pos := "law.go:112", after := #[{ on := 9, ground := Ground.data }, { on := 5, ground := Ground.chain }], guard := none }) (v := ?_) rfl (by kernel_rfl) (by kernel_rfl) (by kernel_rfl) (fun _ _ _ h => h) (Or.inl ⟨by rfl, ?_⟩) (by assumption) ?_
      rotate_left 1
      · ((intro w hSw; (try dsimp only at hSw); go_simp) <;> with_reducible rfl)
      (try simp only [Act.put, List.setIfInBounds_toArray, List.set_cons_zero, List.set_cons_succ])
      refine' wpAnyH_take (i := 11) (oi := { dst := some 63, op := Op.load 68 (Operand.tmp 11), type := 68, pos := "law.go:112", after := #[{ on := 10, ground := Ground.guard }], guard := some (10, true) }) (v := _) rfl (by kernel_rfl) (by kernel_rfl) (by kernel_rfl) (fun _ _ _ h => h) (yieldsIf_load_mid (by rfl) _ _ rfl _ _ rfl DP _ (fun w hSw => hSw.1) Try.underlying68 rfl HSz3.out) (by assumption) ?_
      (try simp only [Act.put, List.setIfInBounds_toArray, List.set_cons_zero, List.set_cons_succ])
      refine' wpAnyH_take (i := 12) (oi := { dst := some 64, op := Op.load 68 (Operand.tmp 13), type := 68, pos := "law.go:112", after := #[{ on := 10, ground := Ground.guard }], guard := some (10, true) }) (v := _) rfl (by kernel_rfl) (by kernel_rfl) (by kernel_rfl) (fun _ _ _ h => h) (yieldsIf_load_mid (by rfl) _ _ rfl _ _ rfl DQ _ (fun w hSw => hSw.2.1) Try.underlying68 rfl HSz4.out) (by assumption) ?_
      (try simp only [Act.put, List.setIfInBounds_toArray, List.set_cons_zero, List.set_cons_succ])
      refine wpAnyH_ready (rs := [13]) (by kernel_rfl) (by simp) ?_
      refine AllReadyH.cons (o := { dst := some 65, op := Op.call { callee := Callee.value (Operand.func 33), args := #[Operand.tmp 63, Operand.tmp 64], argTypes := #[68, 68] }, type := 4, pos := "law.go:112", after := #[{ on := 11, ground := Ground.data }, { on := 12, ground := Ground.data }, { on := 10, ground := Ground.chain }, { on := 10, ground := Ground.guard }], guard := some (10, true) }) rfl (fun K hK => ?_) ?_
      · go_simp
        refine HC13.out.mono ?_
        rintro e wD ⟨rfl, hb⟩
        have e_HBl := Lib.hid (HBl.out.trans (hb.mono HBl.out.size))
        have e_HPT := Lib.hid (range_below hb HPT.out (HPT.out.lt_of (by rw [HLt.out]; decide)))
        have e_HPU := Lib.hid (range_below hb HPU.out (HPU.out.lt_of (by rw [HLu.out]; decide)))
        have e_HT := Lib.hid (HT.out.next hb)
        have e_HU := Lib.hid (HU.out.next hb)
        have e_HB := Lib.hid (HB.out.below hb)
        have e_HX := Lib.hid (own_keep HX.out hb)
        have e_HY := Lib.hid (own_keep HY.out hb)
        have e_HPr := Lib.hid (HPr.out.next hb)
        have e_HPP := Lib.hid (range_below hb HPP.out (HPP.out.lt_of (by rw [HLp.out]; decide)))
        have e_HQr := Lib.hid (HQr.out.next hb)
        have e_HQQ := Lib.hid (range_below hb HQQ.out (HQQ.out.lt_of (by rw [HLq.out]; decide)))
        clear HBl HPT HPU HT HU HB HX HY HPr HPP HQr HQQ
        have HBl := e_HBl
        have HPT := e_HPT
        have HPU := e_HPU
        have HT := e_HT
        have HU := e_HU
        have HB := e_HB
        have HX := e_HX
        have HY := e_HY
        have HPr := e_HPr
        have HPP := e_HPP
        have HQr := e_HQr
        have HQQ := e_HQQ
        clear e_HBl e_HPT e_HPU e_HT e_HU e_HB e_HX e_HY e_HPr e_HPP e_HQr e_HQQ
        have eV1 := Lib.hid (conv_own' HX.out)
        have eV2 := Lib.hid (conv_own' HY.out)
        rw [HSB.out] at eV1 eV2
        clear hb HV1 HV2 HC13
        have HV1 := eV1
        have HV2 := eV2
        clear eV1 eV2
        have HC23 := Lib.hid (HS1.out wD HT.out HU.out)
        (try go_wp2_with fail)
        refine hK.out _ _ ?_ (fun hNew => ?_)
        · ((try dsimp only); exact ⟨HPP.out, HQQ.out, HPT.out, HPU.out, HV1.out, HV2.out⟩)
        clear hK K hHeld
        have hHeld := hNew
        clear hNew
        (try simp only [Act.put, List.setIfInBounds_toArray, List.set_cons_zero, List.set_cons_succ])
        refine wpAnyH_take (i := 14) (oi := { dst := some 66, op := Op.pick (Operand.tmp 62) (Operand.tmp 65) (Operand.const (Value.bool false)), type := 4, pos := "law.go:112", after := #[{ on := 10, ground := Ground.data }, { on := 13, ground := Ground.data }], guard := none }) (v := ?_) rfl (by kernel_rfl) (by kernel_rfl) (by kernel_rfl) (fun _ _ _ h => h) (Or.inl ⟨by rfl, ?_⟩) (by assumption) ?_
        rotate_left 1
        · ((intro w hSw; (try dsimp only at hSw); go_simp) <;> with_reducible rfl)
        (try simp only [Act.put, List.setIfInBounds_toArray, List.set_cons_zero, List.set_cons_succ])
        refine wpAnyH_take (i := 15) (oi := { dst := some 67, op := Op.move (Operand.tmp 66), type := 4, pos := "law.go:112", after := #[{ on := 14, ground := Ground.data }, { on := 13, ground := Ground.chain }], guard := none }) (v := ?_) rfl (by kernel_rfl) (by kernel_rfl) (by kernel_rfl) (fun _ _ _ h => h) (Or.inl ⟨by rfl, ?_⟩) (by assumption) ?_
        rotate_left 1
        · ((intro w hSw; (try dsimp only at hSw); go_simp) <;> with_reducible rfl)
        (try simp only [Act.put, List.setIfInBounds_toArray, List.set_cons_zero, List.set_cons_succ])
        refine wpAnyH_take (i := 16) (oi := { dst := some 68, op := Op.move (Operand.tmp 12), type := 25, pos := "law.go:112", after := #[{ on := 15, ground := Ground.guard }], guard := some (15, true) }) (v := ?_) rfl (by kernel_rfl) (by kernel_rfl) (by kernel_rfl) (fun _ _ _ h => h) (Or.inl ⟨by rfl, ?_⟩) (by assumption) ?_
        rotate_left 1
        · ((intro w hSw; (try dsimp only at hSw); go_simp) <;> with_reducible rfl)
        (try simp only [Act.put, List.setIfInBounds_toArray, List.set_cons_zero, List.set_cons_succ])
        refine wpAnyH_take (i := 17) (oi := { dst := some 69, op := Op.move (Operand.tmp 14), type := 3, pos := "law.go:112", after := #[{ on := 15, ground := Ground.guard }], guard := some (15, true) }) (v := ?_) rfl (by kernel_rfl) (by kernel_rfl) (by kernel_rfl) (fun _ _ _ h => h) (Or.inl ⟨by rfl, ?_⟩) (by assumption) ?_
        rotate_left 1
        · ((intro w hSw; (try dsimp only at hSw); go_simp) <;> with_reducible rfl)
        (try simp only [Act.put, List.setIfInBounds_toArray, List.set_cons_zero, List.set_cons_succ])
        refine wpAnyH_take (i := 18) (oi := { dst := some 70, op := Op.binOp BinOp.eql 3 (Operand.tmp 68) (Operand.tmp 69) 3, type := 4, pos := "law.go:112", after := #[{ on := 16, ground := Ground.data }, { on := 17, ground := Ground.data }, { on := 15, ground := Ground.guard }], guard := some (15, true) }) (v := ?_) rfl (by kernel_rfl) (by kernel_rfl) (by kernel_rfl) (fun _ _ _ h => h) (Or.inl ⟨by rfl, ?_⟩) (by assumption) ?_
        rotate_left 1
        · ((intro w hSw; (try dsimp only at hSw); go_simp) <;> with_reducible rfl)
        (try simp only [Act.put, List.setIfInBounds_toArray, List.set_cons_zero, List.set_cons_succ])
        refine wpAnyH_take (i := 19) (oi := { dst := some 71, op := Op.pick (Operand.tmp 67) (Operand.tmp 70) (Operand.const (Value.bool false)), type := 4, pos := "law.go:112", after := #[{ on := 15, ground := Ground.data }, { on := 18, ground := Ground.data }], guard := none }) (v := ?_) rfl (by kernel_rfl) (by kernel_rfl) (by kernel_rfl) (fun _ _ _ h => h) (Or.inl ⟨by rfl, ?_⟩) (by assumption) ?_
        rotate_left 1
        · ((intro w hSw; (try dsimp only at hSw); go_simp) <;> with_reducible rfl)
        (try simp only [Act.put, List.setIfInBounds_toArray, List.set_cons_zero, List.set_cons_succ])
        refine wpAnyH_take (i := 20) (oi := { dst := some 72, op := Op.move (Operand.tmp 71), type := 4, pos := "law.go:112", after := #[{ on := 19, ground := Ground.data }, { on := 15, ground := Ground.chain }], guard := none }) (v := ?_) rfl (by kernel_rfl) (by kernel_rfl) (by kernel_rfl) (fun _ _ _ h => h) (Or.inl ⟨by rfl, ?_⟩) (by assumption) ?_
        rotate_left 1
        · ((intro w hSw; (try dsimp only at hSw); go_simp) <;> with_reducible rfl)
        (try simp only [Act.put, List.setIfInBounds_toArray, List.set_cons_zero, List.set_cons_succ])
        refine' wpAnyH_take (i := 21) (oi := { dst := some 73, op := Op.load 68 (Operand.tmp 3), type := 68, pos := "law.go:112", after := #[{ on := 20, ground := Ground.guard }], guard := some (20, true) }) (v := _) rfl (by kernel_rfl) (by kernel_rfl) (by kernel_rfl) (fun _ _ _ h => h) (yieldsIf_load_mid (by rfl) _ _ rfl _ _ rfl DT _ (fun w hSw => hSw.2.2.1) Try.underlying68 rfl HSz1.out) (by assumption) ?_
        (try simp only [Act.put, List.setIfInBounds_toArray, List.set_cons_zero, List.set_cons_succ])
        refine' wpAnyH_take (i := 22) (oi := { dst := some 74, op := Op.load 68 (Operand.tmp 5), type := 68, pos := "law.go:112", after := #[{ on := 20, ground := Ground.guard }], guard := some (20, true) }) (v := _) rfl (by kernel_rfl) (by kernel_rfl) (by kernel_rfl) (fun _ _ _ h => h) (yieldsIf_load_mid (by rfl) _ _ rfl _ _ rfl DU _ (fun w hSw => hSw.2.2.2.1) Try.underlying68 rfl HSz2.out) (by assumption) ?_
        (try simp only [Act.put, List.setIfInBounds_toArray, List.set_cons_zero, List.set_cons_succ])
        refine' wpAnyH_take (i := 24) (oi := { dst := some 76, op := Op.load 68 (Operand.tmp 3), type := 68, pos := "law.go:112", after := #[{ on := 20, ground := Ground.guard }], guard := some (20, true) }) (v := _) rfl (by kernel_rfl) (by kernel_rfl) (by kernel_rfl) (fun _ _ _ h => h) (yieldsIf_load_mid (by rfl) _ _ rfl _ _ rfl DT _ (fun w hSw => hSw.2.2.1) Try.underlying68 rfl HSz1.out) (by assumption) ?_
        (try simp only [Act.put, List.setIfInBounds_toArray, List.set_cons_zero, List.set_cons_succ])
        refine' wpAnyH_take (i := 25) (oi := { dst := some 77, op := Op.load 68 (Operand.tmp 5), type := 68, pos := "law.go:112", after := #[{ on := 20, ground := Ground.guard }], guard := some (20, true) }) (v := _) rfl (by kernel_rfl) (by kernel_rfl) (by kernel_rfl) (fun _ _ _ h => h) (yieldsIf_load_mid (by rfl) _ _ rfl _ _ rfl DU _ (fun w hSw => hSw.2.2.2.1) Try.underlying68 rfl HSz2.out) (by assumption) ?_
        (try simp only [Act.put, List.setIfInBounds_toArray, List.set_cons_zero, List.set_cons_succ])
        refine wpAnyH_ready (rs := [23]) (by kernel_rfl) (by simp) ?_
        refine AllReadyH.cons (o := { dst := some 75, op := Op.call { callee := Callee.value (Operand.func 34), args := #[Operand.tmp 73, Operand.tmp 74], argTypes := #[68, 68] }, type := 4, pos := "law.go:112", after := #[{ on := 21, ground := Ground.data }, { on := 22, ground := Ground.data }, { on := 20, ground := Ground.chain }, { on := 20, ground := Ground.guard }], guard := some (20, true) }) rfl (fun K hK => ?_) ?_
        · go_simp
          refine HC23.out.mono ?_
          rintro e wE ⟨rfl, hb⟩
          have e_HBl := Lib.hid (HBl.out.trans (hb.mono HBl.out.size))
          have e_HPT := Lib.hid (range_below hb HPT.out (HPT.out.lt_of (by rw [HLt.out]; decide)))
          have e_HPU := Lib.hid (range_below hb HPU.out (HPU.out.lt_of (by rw [HLu.out]; decide)))
          have e_HT := Lib.hid (HT.out.next hb)
          have e_HU := Lib.hid (HU.out.next hb)
          have e_HB := Lib.hid (HB.out.below hb)
          have e_HX := Lib.hid (own_keep HX.out hb)
          have e_HY := Lib.hid (own_keep HY.out hb)
          have e_HPr := Lib.hid (HPr.out.next hb)
          have e_HPP := Lib.hid (range_below hb HPP.out (HPP.out.lt_of (by rw [HLp.out]; decide)))
          have e_HQr := Lib.hid (HQr.out.next hb)
          have e_HQQ := Lib.hid (range_below hb HQQ.out (HQQ.out.lt_of (by rw [HLq.out]; decide)))
          clear HBl HPT HPU HT HU HB HX HY HPr HPP HQr HQQ
          have HBl := e_HBl
          have HPT := e_HPT
          have HPU := e_HPU
          have HT := e_HT
          have HU := e_HU
          have HB := e_HB
          have HX := e_HX
          have HY := e_HY
          have HPr := e_HPr
          have HPP := e_HPP
          have HQr := e_HQr
          have HQQ := e_HQQ
          clear e_HBl e_HPT e_HPU e_HT e_HU e_HB e_HX e_HY e_HPr e_HPP e_HQr e_HQQ
          have eV1 := Lib.hid (conv_own' HX.out)
          have eV2 := Lib.hid (conv_own' HY.out)
          rw [HSB.out] at eV1 eV2
          clear hb HV1 HV2 HC23
          have HV1 := eV1
          have HV2 := eV2
          clear eV1 eV2
          have HC26 := Lib.hid (HS2.out wE HT.out HU.out)
          (try go_wp2_with fail)
          refine hK.out _ _ ?_ (fun hNew => ?_)
          · ((try dsimp only); exact ⟨HPP.out, HQQ.out, HPT.out, HPU.out, HV1.out, HV2.out⟩)
          clear hK K hHeld
          have hHeld := hNew
          clear hNew
          (try simp only [Act.put, List.setIfInBounds_toArray, List.set_cons_zero, List.set_cons_succ])
          refine wpAnyH_ready (rs := [26]) (by kernel_rfl) (by simp) ?_
          refine AllReadyH.cons (o := { dst := some 78, op := Op.call { callee := Callee.value (Operand.func 33), args := #[Operand.tmp 76, Operand.tmp 77], argTypes := #[68, 68] }, type := 4, pos := "law.go:112", after := #[{ on := 24, ground := Ground.data }, { on := 25, ground := Ground.data }, { on := 23, ground := Ground.chain }, { on := 20, ground := Ground.guard }], guard := some (20, true) }) rfl (fun K hK => ?_) ?_
          · go_simp
            refine HC26.out.mono ?_
            rintro e wF ⟨rfl, hb⟩
            have e_HBl := Lib.hid (HBl.out.trans (hb.mono HBl.out.size))
            have e_HPT := Lib.hid (range_below hb HPT.out (HPT.out.lt_of (by rw [HLt.out]; decide)))
            have e_HPU := Lib.hid (range_below hb HPU.out (HPU.out.lt_of (by rw [HLu.out]; decide)))
            have e_HT := Lib.hid (HT.out.next hb)
            have e_HU := Lib.hid (HU.out.next hb)
            have e_HB := Lib.hid (HB.out.below hb)
            have e_HX := Lib.hid (own_keep HX.out hb)
            have e_HY := Lib.hid (own_keep HY.out hb)
            have e_HPr := Lib.hid (HPr.out.next hb)
            have e_HPP := Lib.hid (range_below hb HPP.out (HPP.out.lt_of (by rw [HLp.out]; decide)))
            have e_HQr := Lib.hid (HQr.out.next hb)
            have e_HQQ := Lib.hid (range_below hb HQQ.out (HQQ.out.lt_of (by rw [HLq.out]; decide)))
            clear HBl HPT HPU HT HU HB HX HY HPr HPP HQr HQQ
            have HBl := e_HBl
            have HPT := e_HPT
            have HPU := e_HPU
            have HT := e_HT
            have HU := e_HU
            have HB := e_HB
            have HX := e_HX
            have HY := e_HY
            have HPr := e_HPr
            have HPP := e_HPP
            have HQr := e_HQr
            have HQQ := e_HQQ
            clear e_HBl e_HPT e_HPU e_HT e_HU e_HB e_HX e_HY e_HPr e_HPP e_HQr e_HQQ
            have eV1 := Lib.hid (conv_own' HX.out)
            have eV2 := Lib.hid (conv_own' HY.out)
            rw [HSB.out] at eV1 eV2
            clear hb HV1 HV2 HC26
            have HV1 := eV1
            have HV2 := eV2
            clear eV1 eV2
            have HC32 := Lib.hid (HS3.out wF HT.out)
            (try go_wp2_with fail)
            refine hK.out _ _ ?_ (fun hNew => ?_)
            · ((try dsimp only); exact ⟨HPP.out, HQQ.out, HPT.out, HPU.out, HV1.out, HV2.out⟩)
            clear hK K hHeld
            have hHeld := hNew
            clear hNew
            (try simp only [Act.put, List.setIfInBounds_toArray, List.set_cons_zero, List.set_cons_succ])
            refine wpAnyH_take (i := 27) (oi := { dst := some 79, op := Op.binOp BinOp.eql 4 (Operand.tmp 75) (Operand.tmp 78) 4, type := 4, pos := "law.go:112", after := #[{ on := 23, ground := Ground.data }, { on := 26, ground := Ground.data }, { on := 20, ground := Ground.guard }], guard := some (20, true) }) (v := ?_) rfl (by kernel_rfl) (by kernel_rfl) (by kernel_rfl) (fun _ _ _ h => h) (Or.inl ⟨by rfl, ?_⟩) (by assumption) ?_
            rotate_left 1
            · ((intro w hSw; (try dsimp only at hSw); go_simp) <;> with_reducible rfl)
            (try simp only [Act.put, List.setIfInBounds_toArray, List.set_cons_zero, List.set_cons_succ])
            refine wpAnyH_take (i := 28) (oi := { dst := some 80, op := Op.pick (Operand.tmp 72) (Operand.tmp 79) (Operand.const (Value.bool false)), type := 4, pos := "law.go:112", after := #[{ on := 20, ground := Ground.data }, { on := 27, ground := Ground.data }], guard := none }) (v := ?_) rfl (by kernel_rfl) (by kernel_rfl) (by kernel_rfl) (fun _ _ _ h => h) (Or.inl ⟨by rfl, ?_⟩) (by assumption) ?_
            rotate_left 1
            · ((intro w hSw; (try dsimp only at hSw); go_simp) <;> with_reducible rfl)
            (try simp only [Act.put, List.setIfInBounds_toArray, List.set_cons_zero, List.set_cons_succ])
            refine wpAnyH_take (i := 29) (oi := { dst := some 81, op := Op.move (Operand.tmp 80), type := 4, pos := "law.go:112", after := #[{ on := 28, ground := Ground.data }, { on := 26, ground := Ground.chain }], guard := none }) (v := ?_) rfl (by kernel_rfl) (by kernel_rfl) (by kernel_rfl) (fun _ _ _ h => h) (Or.inl ⟨by rfl, ?_⟩) (by assumption) ?_
            rotate_left 1
            · ((intro w hSw; (try dsimp only at hSw); go_simp) <;> with_reducible rfl)
            (try simp only [Act.put, List.setIfInBounds_toArray, List.set_cons_zero, List.set_cons_succ])
            refine' wpAnyH_take (i := 30) (oi := { dst := some 82, op := Op.load 68 (Operand.tmp 3), type := 68, pos := "law.go:112", after := #[{ on := 29, ground := Ground.guard }], guard := some (29, true) }) (v := _) rfl (by kernel_rfl) (by kernel_rfl) (by kernel_rfl) (fun _ _ _ h => h) (yieldsIf_load_mid (by rfl) _ _ rfl _ _ rfl DT _ (fun w hSw => hSw.2.2.1) Try.underlying68 rfl HSz1.out) (by assumption) ?_
            (try simp only [Act.put, List.setIfInBounds_toArray, List.set_cons_zero, List.set_cons_succ])
            refine' wpAnyH_take (i := 31) (oi := { dst := some 83, op := Op.load 68 (Operand.tmp 3), type := 68, pos := "law.go:112", after := #[{ on := 29, ground := Ground.guard }], guard := some (29, true) }) (v := _) rfl (by kernel_rfl) (by kernel_rfl) (by kernel_rfl) (fun _ _ _ h => h) (yieldsIf_load_mid (by rfl) _ _ rfl _ _ rfl DT _ (fun w hSw => hSw.2.2.1) Try.underlying68 rfl HSz1.out) (by assumption) ?_
            (try simp only [Act.put, List.setIfInBounds_toArray, List.set_cons_zero, List.set_cons_succ])
            refine wpAnyH_ready (rs := [32]) (by kernel_rfl) (by simp) ?_
            refine AllReadyH.cons (o := { dst := some 84, op := Op.call { callee := Callee.value (Operand.func 34), args := #[Operand.tmp 82, Operand.tmp 83], argTypes := #[68, 68] }, type := 4, pos := "law.go:112", after := #[{ on := 30, ground := Ground.data }, { on := 31, ground := Ground.data }, { on := 29, ground := Ground.chain }, { on := 29, ground := Ground.guard }], guard := some (29, true) }) rfl (fun K hK => ?_) ?_
            · go_simp
              refine HC32.out.mono ?_
              rintro e wG ⟨rfl, hb⟩
              have e_HBl := Lib.hid (HBl.out.trans (hb.mono HBl.out.size))
              have e_HPT := Lib.hid (range_below hb HPT.out (HPT.out.lt_of (by rw [HLt.out]; decide)))
              have e_HPU := Lib.hid (range_below hb HPU.out (HPU.out.lt_of (by rw [HLu.out]; decide)))
              have e_HT := Lib.hid (HT.out.next hb)
              have e_HU := Lib.hid (HU.out.next hb)
              have e_HB := Lib.hid (HB.out.below hb)
              have e_HX := Lib.hid (own_keep HX.out hb)
              have e_HY := Lib.hid (own_keep HY.out hb)
              have e_HPr := Lib.hid (HPr.out.next hb)
              have e_HPP := Lib.hid (range_below hb HPP.out (HPP.out.lt_of (by rw [HLp.out]; decide)))
              have e_HQr := Lib.hid (HQr.out.next hb)
              have e_HQQ := Lib.hid (range_below hb HQQ.out (HQQ.out.lt_of (by rw [HLq.out]; decide)))
              clear HBl HPT HPU HT HU HB HX HY HPr HPP HQr HQQ
              have HBl := e_HBl
              have HPT := e_HPT
              have HPU := e_HPU
              have HT := e_HT
              have HU := e_HU
              have HB := e_HB
              have HX := e_HX
              have HY := e_HY
              have HPr := e_HPr
              have HPP := e_HPP
              have HQr := e_HQr
              have HQQ := e_HQQ
              clear e_HBl e_HPT e_HPU e_HT e_HU e_HB e_HX e_HY e_HPr e_HPP e_HQr e_HQQ
              have eV1 := Lib.hid (conv_own' HX.out)
              have eV2 := Lib.hid (conv_own' HY.out)
              rw [HSB.out] at eV1 eV2
              clear hb HV1 HV2 HC32
              have HV1 := eV1
              have HV2 := eV2
              clear eV1 eV2
              (try go_wp2_with fail)
              refine hK.out _ _ ?_ (fun hNew => ?_)
              · ((try dsimp only); exact ⟨HPP.out, HQQ.out, HPT.out, HPU.out, HV1.out, HV2.out⟩)
              clear hK K hHeld
              have hHeld := hNew
              clear hNew
              (try simp only [Act.put, List.setIfInBounds_toArray, List.set_cons_zero, List.set_cons_succ])
              refine wpAnyH_take (i := 33) (oi := { dst := some 85, op := Op.pick (Operand.tmp 81) (Operand.tmp 84) (Operand.const (Value.bool false)), type := 4, pos := "law.go:112", after := #[{ on := 29, ground := Ground.data }, { on := 32, ground := Ground.data }], guard := none }) (v := ?_) rfl (by kernel_rfl) (by kernel_rfl) (by kernel_rfl) (fun _ _ _ h => h) (Or.inl ⟨by rfl, ?_⟩) (by assumption) ?_
              rotate_left 1
              · ((intro w hSw; (try dsimp only at hSw); go_simp) <;> with_reducible rfl)
              (try simp only [Act.put, List.setIfInBounds_toArray, List.set_cons_zero, List.set_cons_succ])
              refine wpAnyH_take (i := 34) (oi := { dst := some 6, op := Op.assign (Operand.tmp 85), type := 4, pos := "law.go:112", after := #[{ on := 33, ground := Ground.data }, { on := 32, ground := Ground.chain }, { on := 0, ground := Ground.phase }, { on := 1, ground := Ground.phase }, { on := 2, ground := Ground.phase }, { on := 3, ground := Ground.phase }, { on := 4, ground := Ground.phase }, { on := 5, ground := Ground.phase }, { on := 6, ground := Ground.phase }, { on := 7, ground := Ground.phase }, { on := 8, ground := Ground.phase }, { on := 9, ground := Ground.phase }, { on := 10, ground := Ground.phase }, { on := 11, ground := Ground.phase }, { on := 12, ground := Ground.phase }, { on := 13, ground := Ground.phase }, { on := 14, ground := Ground.phase }, { on := 15, ground := Ground.phase }, { on := 16, ground := Ground.phase }, { on := 17, ground := Ground.phase }, { on := 18, ground := Ground.phase }, { on := 19, ground := Ground.phase }, { on := 20, ground := Ground.phase }, { on := 21, ground := Ground.phase }, { on := 22, ground := Ground.phase }, { on := 23, ground := Ground.phase }, { on := 24, ground := Ground.phase }, { on := 25, ground := Ground.phase }, { on := 26, ground := Ground.phase }, { on := 27, ground := Ground.phase }, { on := 28, ground := Ground.phase }, { on := 29, ground := Ground.phase }, { on := 30, ground := Ground.phase }, { on := 31, ground := Ground.phase }, { on := 32, ground := Ground.phase }, { on := 33, ground := Ground.phase }], guard := none }) (v := ?_) rfl (by kernel_rfl) (by kernel_rfl) (by kernel_rfl) (fun _ _ _ h => h) (Or.inl ⟨by rfl, ?_⟩) (by assumption) ?_
              rotate_left 1
              · ((intro w hSw; (try dsimp only at hSw); go_simp) <;> with_reducible rfl)
              (try simp only [Act.put, List.setIfInBounds_toArray, List.set_cons_zero, List.set_cons_succ])
              refine wpAnyH_done (by kernel_rfl) ?_ _
              refine NoPanic.normal ?_
              clear hHeld
              go_wp2_with fail
              go_ret
              exact ⟨rfl, HBl.out⟩
            exact AllReadyH.nil
          exact AllReadyH.nil
        exact AllReadyH.nil
      exact AllReadyH.nil
end Go.Proofs.Ytmcmapgllaopmaa.Cd
end
