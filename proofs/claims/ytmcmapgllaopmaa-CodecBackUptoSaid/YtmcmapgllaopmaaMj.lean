/- Texts of one's own, merged: CdSdT, CdSdU, CdPo2, CdSdV, CdSha, CdSdW, CdEqI, CdSmC. -/
import Derived.Test.YtmcmapgllaopmaaMi

section
namespace Go.Proofs.Ytmcmapgllaopmaa.Cd
open Go.RowKit
set_option linter.unusedVariables false
/-- a move that may be -/
structure MvF (m : Mv) : Prop where
  od : m.od.length = 32
  nw : m.nw.length = 32
  nm : m.nm.size ≤ 255
  wy : m.wy.size ≤ 65535
section
variable {l : List Int} {L : Nat}
theorem mvB_len {m : Mv} (h : MvF m) : (mvB m).length = 1 + m.nm.size + 32 + 32 + (2 + m.wy.size) := by
  simp [mvB, be_length, sv_len, h.od, h.nw]; omega
theorem sd_mv (hL : l.length = L) {a : Nat} {m : Mv} (h : Sd l a (mvB m)) (hm : MvF m) : mvP l L (0, a) = m ∧ vP4 l L (0, a) = (0, a + (mvB m).length) := by
  have h1 := hm.od
  have h2 := hm.nw
  have h3 := hm.nm
  have h4 := hm.wy
  have k1 := h.left.left.left
  have k2 := h.left.left.right
  have k3 := h.left.right
  have k4 := h.right
  simp only [List.length_append, be_length, sv_len, h1, h2] at k2 k3 k4
  obtain ⟨e1, e2⟩ := sd_text (most := 255) k1 hL (by omega) (by omega)
  obtain ⟨e3, e4⟩ := sd_id k2 hL h1
  obtain ⟨e5, e6⟩ := sd_id k3 hL h2
  obtain ⟨e7, e8⟩ := sd_text (most := 65535) k4 hL (by omega) (by omega)
  have p1 : vP1 l L (0, a) = (0, a + (1 + m.nm.size)) := by unfold vP1; rw [e2, Nat.add_assoc]
  have p2 : vP2 l L (0, a) = (0, a + (1 + m.nm.size + 32)) := by unfold vP2; rw [p1, e4]; simp only [Nat.add_assoc]
  have p3 : vP3 l L (0, a) = (0, a + (1 + m.nm.size + 32 + 32)) := by unfold vP3; rw [p2, e6]; simp only [Nat.add_assoc]
  refine ⟨?_, ?_⟩
  · unfold mvP vNm vOd vNw vWy
    rw [p1, p2, p3, e1, e3, e5, e7]
  · unfold vP4
    rw [p3, e8, mvB_len hm]
    simp only [Nat.add_assoc]
theorem sd_mvs (hL : l.length = L) : ∀ (ms : List Mv) (a : Nat) (acc : List Mv), Sd l a (mvBs ms) → (∀ m ∈ ms, MvF m) → mvL l L ms.length (0, a) acc = ((0, a + (mvBs ms).length), acc ++ ms)
  | [], a, acc, _, _ => by simp [mvL, mvBs]
  | m :: ms, a, acc, h, hm => by
    have h' : Sd l a (mvB m ++ mvBs ms) := h
    obtain ⟨e1, e2⟩ := sd_mv hL h'.left (hm m (List.mem_cons_self ..))
    rw [List.length_cons, mvL, if_pos rfl, e1, e2, sd_mvs hL ms _ _ h'.right (fun x hx => hm x (List.mem_cons_of_mem _ hx))]
    have : mvBs (m :: ms) = mvB m ++ mvBs ms := rfl
    rw [this, List.length_append, List.append_assoc, Nat.add_assoc]
    rfl
theorem sd_td (hL : l.length = L) {a : Nat} {t : Td} (h : Sd l a (t.dd :: t.id)) (hi : t.id.length = 32) (h0 : 0 ≤ t.dd) (h1 : t.dd ≤ 255) :
    (⟨(geN l L (0, a) 1 : Nat), geI l L (atN l L (0, a) 1)⟩ : Td) = t ∧ atN l L (atN l L (0, a) 1) 32 = (0, a + 33) := by
  have h' : Sd l a (be 1 t.dd ++ t.id) := by rw [be_one _ h0 h1]; exact h
  obtain ⟨e1, e2⟩ := sd_num h'.left hL h0 (by omega)
  have k := h'.right
  rw [be_length] at k
  obtain ⟨e3, e4⟩ := sd_id k hL hi
  rw [e2, e3, e4, e1]
  exact ⟨rfl, rfl⟩
theorem sd_tds (hL : l.length = L) : ∀ (ts : List Td) (a : Nat) (acc : List Td), Sd l a (tdBs ts) → (∀ t ∈ ts, t.id.length = 32 ∧ 0 ≤ t.dd ∧ t.dd ≤ 255) → tdL l L ts.length (0, a) acc = ((0, a + 33 * ts.length), acc ++ ts)
  | [], a, acc, _, _ => by simp [tdL]
  | t :: ts, a, acc, h, hm => by
    have h' : Sd l a ((t.dd :: t.id) ++ tdBs ts) := h
    have ht := hm t (List.mem_cons_self ..)
    obtain ⟨e1, e2⟩ := sd_td hL h'.left ht.1 ht.2.1 ht.2.2
    have hr := h'.right
    rw [List.length_cons, ht.1] at hr
    rw [List.length_cons, tdL, if_pos rfl, e1, e2, sd_tds hL ts _ _ hr (fun x hx => hm x (List.mem_cons_of_mem _ hx))]
    rw [List.append_assoc, show a + 33 + 33 * ts.length = a + 33 * (ts.length + 1) by omega]
    rfl
/-- a conflict that may be -/
structure MyF (y : My) : Prop where
  key : y.key.length = 32
  len : y.l.length = y.n
  big : y.n < 4294967296
theorem sd_ym (hL : l.length = L) {a : Nat} {y : My} (h : Sd l a (myB y)) (hy : MyF y) : ymP l L (0, a) = y.pl ∧ yP3 l L (0, a) = (0, a + (myB y).length) := by
  have h1 := hy.key
  have h2 := hy.len
  have h3 := hy.big
  have k1 := h.left.left
  have k2 := h.left.right
  have k3 := h.right
  simp only [List.length_append, be_length, h1] at k2 k3
  obtain ⟨e1, e2⟩ := sd_id k1 hL h1
  obtain ⟨e3, e4⟩ := sd_num k2 hL (by omega) (by omega)
  obtain ⟨e5, e6⟩ := sd_at k3 hL y.n h2
  have e3' : geN l L (0, a + 32) 4 = y.n := by omega
  have p1 : yP1 l L (0, a) = (0, a + 32) := e2
  have p2 : yP2 l L (0, a) = (0, a + (32 + 4)) := by unfold yP2; rw [p1, e4]
  have pm : yM l L (0, a) = y.n := by unfold yM; rw [p1]; exact e3'
  refine ⟨?_, ?_⟩
  · unfold ymP yK yD My.pl
    rw [p2, pm, e6, e1]
  · unfold yP3
    rw [p2, pm, e5]
    simp [myB, be_length, h1, h2]
    omega
theorem sd_yms (hL : l.length = L) : ∀ (ys : List My) (a : Nat) (acc : List Yp), Sd l a (myBs ys) → (∀ y ∈ ys, MyF y) → ymL l L ys.length (0, a) acc = ((0, a + (myBs ys).length), acc ++ ys.map My.pl)
  | [], a, acc, _, _ => by simp [ymL, myBs]
  | y :: ys, a, acc, h, hm => by
    have h' : Sd l a (myB y ++ myBs ys) := h
    obtain ⟨e1, e2⟩ := sd_ym hL h'.left (hm y (List.mem_cons_self ..))
    rw [List.length_cons, ymL, if_pos rfl, e1, e2, sd_yms hL ys _ _ h'.right (fun x hx => hm x (List.mem_cons_of_mem _ hx))]
    have : myBs (y :: ys) = myB y ++ myBs ys := rfl
    rw [this, List.length_append, List.append_assoc, Nat.add_assoc]
    rfl
/-- a sequence that may be -/
structure SqF (s : SqD) : Prop where
  k0 : 0 ≤ s.k
  k1 : s.k ≤ 255
  br : s.br.size ≤ 255
  og : s.og.length = 32
  cu : s.cu.length = 32
  n : s.ts.length ≤ 65535
  ts : ∀ t ∈ s.ts, t.id.length = 32 ∧ 0 ≤ t.dd ∧ t.dd ≤ 255
  d0 : 0 ≤ s.dn
  d1 : s.dn ≤ 65535
  m0 : 0 ≤ s.md
  m1 : s.md ≤ 65535
theorem sd_sq (hL : l.length = L) {a : Nat} {s : SqD} (h : Sd l a s.bytes) (hs : SqF s) : (sqP l L (0, a)).D = (if s.k = 0 then SqD.zero else s) ∧ sqE l L (0, a) = (0, a + s.bytes.length) := by
  have hk0 := hs.k0
  have hk1 := hs.k1
  by_cases h0 : s.k = 0
  · have e : s.bytes = be 1 s.k := by
      unfold SqD.bytes sqBs
      rw [if_pos h0, be_one _ hk0 hk1]
    rw [e] at h ⊢
    obtain ⟨e1, e2⟩ := sd_num h hL hk0 (by omega)
    have hz : sK l L (0, a) = 0 := by unfold sK; omega
    rw [if_pos h0]
    unfold sqP sqE
    rw [if_pos hz, if_pos hz]
    exact ⟨rfl, by unfold sP1; rw [e2, be_length]⟩
  · have e : s.bytes = be 1 s.k ++ (sqH s.br s.og s.cu s.ts.length ++ tdBs s.ts ++ sqT s.dn s.md s.st) := by
      unfold SqD.bytes sqBs
      rw [if_neg h0, be_one _ hk0 hk1]; rfl
    have hlen : s.bytes.length = 1 + (1 + s.br.size + 32 + 32 + 2 + 33 * s.ts.length + (2 + 2 + 1)) := by
      rw [e]
      simp [sqH, sqT, be_length, sv_len, hs.og, hs.cu, tdBs_len s.ts (fun t ht => (hs.ts t ht).1)]
      omega
    rw [e] at h
    have q := h.right
    unfold sqH sqT at q
    rw [be_length] at q
    obtain ⟨e1, e2⟩ := sd_num h.left hL hk0 (by omega)
    have b1 := hs.br
    have b2 := hs.og
    have b3 := hs.cu
    have b4 := hs.n
    have c1 := q.left.left
    have d1 := c1.left.left.left
    have d2 := c1.left.left.right
    have d3 := c1.left.right
    have d4 := c1.right
    have d5 := q.left.right
    have d6 := q.right.left.left
    have d7 := q.right.left.right
    have d8 := q.right.right
    have ht := tdBs_len s.ts (fun t ht => (hs.ts t ht).1)
    simp only [List.length_append, be_length, sv_len, b2, b3, ht] at d2 d3 d4 d5 d6 d7 d8
    obtain ⟨f1, f2⟩ := sd_text (most := 255) d1 hL (by omega) (by omega)
    obtain ⟨f3, f4⟩ := sd_id d2 hL b2
    obtain ⟨f5, f6⟩ := sd_id d3 hL b3
    obtain ⟨f7, f8⟩ := sd_num d4 hL (by omega) (by omega)
    have f9 := sd_tds hL s.ts _ [] d5 hs.ts
    obtain ⟨g1, g2⟩ := sd_num d6 hL hs.d0 (by have := hs.d1; omega)
    obtain ⟨g3, g4⟩ := sd_num d7 hL hs.m0 (by have := hs.m1; omega)
    have d9 : Sd l (a + 1 + (1 + s.br.size + 32 + 32 + 2 + 33 * s.ts.length) + (2 + 2)) (be 1 (if s.st = true then 1 else 0)) := by
      rw [be_one _ (by split <;> decide) (by split <;> decide)]; exact d8
    obtain ⟨g5, g6⟩ := sd_num d9 hL (by split <;> decide) (by split <;> decide)
    have eK : ((sK l L (0, a) : Nat) : Int) = s.k := e1
    have p1 : sP1 l L (0, a) = (0, a + 1) := e2
    have eB : sBr l L (0, a) = s.br := by unfold sBr; rw [p1]; exact f1
    have p2 : sP2 l L (0, a) = (0, a + 1 + (1 + s.br.size)) := by unfold sP2; rw [p1, f2]; simp only [Nat.add_assoc]
    have eO : sOg l L (0, a) = s.og := by unfold sOg; rw [p2]; exact f3
    have p3 : sP3 l L (0, a) = (0, a + 1 + (1 + s.br.size + 32)) := by unfold sP3; rw [p2, f4]; simp only [Nat.add_assoc]
    have eC : sCu l L (0, a) = s.cu := by unfold sCu; rw [p3]; exact f5
    have p4 : sP4 l L (0, a) = (0, a + 1 + (1 + s.br.size + 32 + 32)) := by unfold sP4; rw [p3, f6]; simp only [Nat.add_assoc]
    have eM : sM l L (0, a) = s.ts.length := by unfold sM; rw [p4]; omega
    have p5 : sP5 l L (0, a) = (0, a + 1 + (1 + s.br.size + 32 + 32 + 2)) := by unfold sP5; rw [p4, f8]; simp only [Nat.add_assoc]
    have eQ : sQ l L (0, a) = ((0, a + 1 + (1 + s.br.size + 32 + 32 + 2 + 33 * s.ts.length)), s.ts) := by unfold sQ; rw [eM, p5, f9]; simp only [Nat.add_assoc, List.nil_append]
    have eD : ((sDn l L (0, a) : Nat) : Int) = s.dn := by unfold sDn; rw [eQ]; exact g1
    have p6 : sP6 l L (0, a) = (0, a + 1 + (1 + s.br.size + 32 + 32 + 2 + 33 * s.ts.length) + 2) := by unfold sP6; rw [eQ]; exact g2
    have eMd : ((sMd l L (0, a) : Nat) : Int) = s.md := by unfold sMd; rw [p6]; exact g3
    have p7 : sP7 l L (0, a) = (0, a + 1 + (1 + s.br.size + 32 + 32 + 2 + 33 * s.ts.length) + (2 + 2)) := by unfold sP7; rw [p6, g4]
    have eS : ((sSt l L (0, a) : Nat) : Int) = if s.st = true then 1 else 0 := by unfold sSt; rw [p7]; exact g5
    have p8 : sP8 l L (0, a) = (0, a + 1 + (1 + s.br.size + 32 + 32 + 2 + 33 * s.ts.length) + (2 + 2) + 1) := by unfold sP8; rw [p7]; exact g6
    have hS1 : ¬ 1 < sSt l L (0, a) := by
      intro hh
      split at eS <;> omega
    have p9 : sP9 l L (0, a) = (0, a + 1 + (1 + s.br.size + 32 + 32 + 2 + 33 * s.ts.length) + (2 + 2) + 1) := by unfold sP9; rw [if_neg hS1, p8]
    have hS : (sSt l L (0, a) == 1) = s.st := by
      cases hst : s.st <;> rw [hst] at eS
      · have : sSt l L (0, a) = 0 := by simpa using eS
        rw [this]; rfl
      · have : sSt l L (0, a) = 1 := by
          have : ((sSt l L (0, a) : Nat) : Int) = 1 := eS
          omega
        rw [this]; rfl
    have hz : ¬ sK l L (0, a) = 0 := by
      intro hh
      rw [hh] at eK
      exact h0 eK.symm
    rw [if_neg h0]
    unfold sqP sqE
    rw [if_neg hz, if_neg hz, p9, hlen, eB, eO, eC, eQ, hS]
    refine ⟨?_, by simp only [Prod.mk.injEq, true_and]; omega⟩
    unfold Sq.D
    simp only [eK, eD, eMd]
end
theorem anyF {α : Type} {f : α → Bool} {l : List α} (h : l.any f = false) : ∀ x ∈ l, f x = false := by
  intro x hx
  have := List.any_eq_false.1 h x hx
  simpa using this
/-- what EncodeTx takes may be -/
theorem txE_ok {t : TxS} (hr : ∃ G w, t.Rd G w) (h0 : txE t.D = 0) : t.ms.length ≤ 65535 ∧ (∀ m ∈ t.ms, MvF m) ∧ t.ys.length ≤ 65535 ∧ (∀ y ∈ t.ys, MyF y) ∧ (akH t.hh t.hd).size ≤ 255 ∧ SqF (t.D.sq.ask t.D.hs) := by
  obtain ⟨G, w, hr⟩ := hr
  unfold txE at h0
  split at h0
  · exact absurd h0 (by decide)
  · rename_i h1
    split at h0
    · exact absurd h0 (by decide)
    · rename_i h2
      split at h0
      · exact absurd h0 (by decide)
      · rename_i h3
        have h2' : lgB t.ms (akH t.hh t.hd) (t.D.sq.ask t.D.hs).br = false := (Bool.eq_false_or_eq_true _).resolve_left h2
        have h3' : nfB (t.D.sq.ask t.D.hs).ts (t.D.sq.ask t.D.hs).k (t.D.sq.ask t.D.hs).dn (t.D.sq.ask t.D.hs).md = true := (Bool.eq_false_or_eq_true _).resolve_right h3
        unfold lgB at h2'
        simp only [Bool.or_eq_false_iff, decide_eq_false_iff_not] at h2'
        obtain ⟨a1, a2, a3⟩ := h2'
        unfold nfB tdB fitB at h3'
        simp only [Bool.and_eq_true, decide_eq_true_eq, List.all_eq_true] at h3'
        obtain ⟨b1, ⟨b2, b3⟩, ⟨b4, b5⟩, b6, b7⟩ := h3'
        have hl1 : t.D.ms.length ≤ 65535 := by
          rcases Nat.lt_or_ge 65535 t.D.ms.length with h | h
          · exact absurd (Or.inl h) h1
          · exact h
        have hl2 : t.D.ys.length ≤ 65535 := by
          rcases Nat.lt_or_ge 65535 t.D.ys.length with h | h
          · exact absurd (Or.inr (Or.inl h)) h1
          · exact h
        have hl3 : (t.D.sq.ask t.D.hs).ts.length ≤ 65535 := by
          rcases Nat.lt_or_ge 65535 (t.D.sq.ask t.D.hs).ts.length with h | h
          · exact absurd (Or.inr (Or.inr h)) h1
          · exact h
        have hask : (t.D.sq.ask t.D.hs).og.length = 32 ∧ (t.D.sq.ask t.D.hs).cu.length = 32 ∧ ∀ x ∈ (t.D.sq.ask t.D.hs).ts, x.id.length = 32 := by
          unfold SqD.ask
          split
          · exact ⟨hr.ho.1, hr.hc.1, fun x hx => (hr.hTi x hx).1⟩
          · exact ⟨by simp [SqD.zero], by simp [SqD.zero], fun x hx => absurd hx (by simp [SqD.zero])⟩
        refine ⟨hl1, fun m hm => ?_, hl2, fun y hy => ?_, by omega, ⟨b2, b3, by omega, hask.1, hask.2.1, hl3, fun x hx => ⟨hask.2.2 x hx, (b1 x hx).1, (b1 x hx).2⟩, b4, b5, b6, b7⟩⟩
        · have := anyF a1 m hm
          unfold mlB at this
          simp only [Bool.or_eq_false_iff, decide_eq_false_iff_not] at this
          exact ⟨(hr.hMi m hm).1.1, (hr.hMi m hm).2.1, by omega, by omega⟩
        · have h5 := hr.hY.ok y hy
          exact ⟨h5.1, h5.2.2.rd.len, by have := h5.2.1; omega⟩
/-- ENCODED, THEN PARSED -/
theorem tx_back {t : TxS} (hr : ∃ G w, t.Rd G w) (h0 : txE t.D = 0) : xF (txB t.D) (txB t.D).length = 0 ∧ ptP (txB t.D) (txB t.D).length = ⟨t.hh, akH t.hh t.hd, t.ms, t.hs, (t.D.sq.ask t.D.hs), t.ys.map My.pl⟩ := by
  obtain ⟨a1, a2, a3, a4, a5, a6⟩ := txE_ok hr h0
  obtain ⟨l, hl⟩ : ∃ l, l = txB t.D := ⟨_, rfl⟩
  obtain ⟨L, hL⟩ : ∃ L, L = (txB t.D).length := ⟨_, rfl⟩
  have hlL : l.length = L := by rw [hl, hL]
  have hw := Sd.whole l
  rw [hl] at hw
  rw [← hl] at hL ⊢
  rw [← hL]
  obtain ⟨Hd, hHd⟩ : ∃ Hd : List Int, Hd = if t.hh = true then be 1 (t.hd.size : Int) ++ sv t.hd else [] := ⟨_, rfl⟩
  obtain ⟨Sb, hSb⟩ : ∃ Sb : List Int, Sb = if t.hs = true then (t.D.sq.ask t.D.hs).bytes else [] := ⟨_, rfl⟩
  have hfg : 0 ≤ fgB t.hh t.hs ∧ fgB t.hh t.hs ≤ 3 := by unfold fgB; cases t.hh <;> cases t.hs <;> decide
  have e : txB t.D = be 1 (fgB t.hh t.hs) ++ (Hd ++ be 2 (t.ms.length : Int) ++ mvBs t.ms ++ Sb ++ be 2 (t.ys.length : Int) ++ myBs t.ys) := by
    rw [be_one _ hfg.1 (by omega), hHd, hSb]; rfl
  have hw2 : Sd l 0 (be 1 (fgB t.hh t.hs) ++ (Hd ++ be 2 (t.ms.length : Int) ++ mvBs t.ms ++ Sb ++ be 2 (t.ys.length : Int) ++ myBs t.ys)) := by rw [← e, hl]; exact Sd.whole _
  have hle : L = 1 + (Hd.length + 2 + (mvBs t.ms).length + Sb.length + 2 + (myBs t.ys).length) := by
    rw [hL, hl, e]; simp [be_length]; omega
  have k0 := hw2.left
  have q := hw2.right
  rw [be_length] at q
  have k1 := q.left.left.left.left.left
  have k2 := q.left.left.left.left.right
  have k3 := q.left.left.left.right
  have k4 := q.left.left.right
  have k5 := q.left.right
  have k6 := q.right
  simp only [List.length_append, be_length] at k2 k3 k4 k5 k6
  clear hw hw2 q
  obtain ⟨b1, b2⟩ := sd_num k0 hlL hfg.1 (by omega)
  have eH : ((xH l L (0, 0) : Nat) : Int) = fgB t.hh t.hs := b1
  have p1 : xP1 l L (0, 0) = (0, 0 + 1) := b2
  have hH3 : ¬ 3 < xH l L (0, 0) := by omega
  have p2 : xP2 l L (0, 0) = (0, 0 + 1) := by unfold xP2; rw [if_neg hH3, p1]
  have eHh : xHh l L (0, 0) = t.hh := by
    unfold xHh
    have : xH l L (0, 0) = (fgB t.hh t.hs).toNat := by omega
    rw [this]
    unfold fgB
    cases t.hh <;> cases t.hs <;> rfl
  have eHs : xHs l L (0, 0) = t.hs := by
    unfold xHs
    have : xH l L (0, 0) = (fgB t.hh t.hs).toNat := by omega
    rw [this]
    unfold fgB
    cases t.hh <;> cases t.hs <;> rfl
  have h3 : xHd l L (0, 0) = akH t.hh t.hd ∧ xP3 l L (0, 0) = (0, 0 + 1 + Hd.length) := by
    unfold xHd xP3
    rw [eHh, p2]
    cases hh : t.hh with
    | false =>
      rw [hh] at hHd
      have : Hd = [] := by rw [hHd]; rfl
      rw [this]
      exact ⟨rfl, rfl⟩
    | true =>
      rw [hh] at hHd a5
      have : Hd = be 1 (t.hd.size : Int) ++ sv t.hd := by rw [hHd]; rfl
      rw [this] at k1 ⊢
      have hs : t.hd.size ≤ 255 := a5
      obtain ⟨c1, c2⟩ := sd_text (most := 255) k1 hlL (by omega) hs
      refine ⟨c1, ?_⟩
      show atT l L (0, 0 + 1) 1 255 = _
      rw [c2]
      simp [be_length, sv_len]
      omega
  obtain ⟨b3, b4⟩ := sd_num k2 hlL (by omega) (by omega)
  have eM : xM l L (0, 0) = t.ms.length := by unfold xM; rw [h3.2]; omega
  have p4 : xP4 l L (0, 0) = (0, 0 + 1 + (Hd.length + 2)) := by unfold xP4; rw [h3.2, b4]; simp only [Nat.add_assoc]
  have eQ : xQ l L (0, 0) = ((0, 0 + 1 + (Hd.length + 2 + (mvBs t.ms).length)), t.ms) := by
    unfold xQ
    rw [eM, p4, sd_mvs hlL t.ms _ [] k3 a2]
    simp only [Nat.add_assoc, List.nil_append]
  have h5 : (xSq l L (0, 0)).D = (t.D.sq.ask t.D.hs) ∧ xP5 l L (0, 0) = (0, 0 + 1 + (Hd.length + 2 + (mvBs t.ms).length + Sb.length)) := by
    unfold xSq xP5
    rw [eHs, eQ]
    have hd : t.D.hs = t.hs := rfl
    cases hs : t.hs with
    | false =>
      rw [hs] at hSb hd
      have : Sb = [] := by rw [hSb]; rfl
      rw [this, hd]
      refine ⟨?_, rfl⟩
      rw [if_neg (by decide)]
      unfold SqD.ask
      rw [if_neg (fun h => by cases h.1)]
      rfl
    | true =>
      rw [hs] at hSb
      have : Sb = (t.D.sq.ask t.D.hs).bytes := by rw [hSb]; rfl
      rw [this] at k4 ⊢
      obtain ⟨c1, c2⟩ := sd_sq hlL k4 a6
      rw [if_pos rfl, if_pos rfl, c1, c2]
      refine ⟨?_, by simp only [Nat.add_assoc]⟩
      split
      · rename_i hk
        unfold SqD.ask at hk ⊢
        split at hk
        · rename_i h6
          exact absurd hk h6.2
        · rename_i h6
          rw [if_neg h6]
      · rfl
  obtain ⟨b5, b6⟩ := sd_num k5 hlL (by omega) (by omega)
  have eN : xN l L (0, 0) = t.ys.length := by unfold xN; rw [h5.2]; omega
  have p6 : xP6 l L (0, 0) = (0, 0 + 1 + (Hd.length + 2 + (mvBs t.ms).length + Sb.length + 2)) := by unfold xP6; rw [h5.2, b6]; simp only [Nat.add_assoc]
  have eR : xR l L (0, 0) = ((0, L), t.ys.map My.pl) := by
    unfold xR
    rw [eN, p6, sd_yms hlL t.ys _ [] k6 a4, hle]
    simp only [List.nil_append, Prod.mk.injEq, true_and, and_true]
    omega
  have eF : xF l L = 0 := by
    show enF (xR l L (0, 0)).1.1 (xR l L (0, 0)).1.2 L = 0
    rw [eR]
    unfold enF
    rw [if_pos rfl]
  refine ⟨eF, ?_⟩
  unfold ptP
  rw [if_pos eF, eHh, eHs, h3.1, eQ, h5.1, eR]
end Go.Proofs.Ytmcmapgllaopmaa.Cd
end

section
namespace Go.Proofs.Ytmcmapgllaopmaa.Cd
open Go.RowKit
set_option linter.unusedVariables false
section
variable {l : List Int} {L : Nat}
theorem atN_z {p : Pl} {n : Nat} (h : (atN l L p n).1 = 0) : p.1 = 0 := Decidable.byContradiction fun h0 => by rw [atN_st h0] at h; exact h0 h
theorem atT_z {p : Pl} {n m : Nat} (h : (atT l L p n m).1 = 0) : p.1 = 0 := Decidable.byContradiction fun h0 => by rw [atT_st h0] at h; exact h0 h
theorem mvL_z {n : Nat} {p : Pl} {acc : List Mv} (h : (mvL l L n p acc).1.1 = 0) : p.1 = 0 := Decidable.byContradiction fun h0 => by rw [mvL_st h0] at h; exact h0 h
theorem tdL_z {n : Nat} {p : Pl} {acc : List Td} (h : (tdL l L n p acc).1.1 = 0) : p.1 = 0 := Decidable.byContradiction fun h0 => by rw [tdL_st h0] at h; exact h0 h
theorem ymL_z {n : Nat} {p : Pl} {acc : List Yp} (h : (ymL l L n p acc).1.1 = 0) : p.1 = 0 := Decidable.byContradiction fun h0 => by rw [ymL_st h0] at h; exact h0 h
theorem sqE_z {p : Pl} (h : (sqE l L p).1 = 0) : p.1 = 0 := Decidable.byContradiction fun h0 => by rw [sqE_st h0] at h; exact h0 h
theorem Sd.mv {a b : Nat} {x : List Int} (h : Sd l a x) (e : b = a) : Sd l b x := e ▸ h
variable (hL : l.length = L) (hb : ∀ i, i < L → 0 ≤ l.getD i 0 ∧ l.getD i 0 ≤ 255)
include hL hb
theorem ok_mv {p : Pl} (h : (vP4 l L p).1 = 0) (hp : p.2 ≤ L) : Sd l p.2 (mvB (mvP l L p)) ∧ MvF (mvP l L p) ∧ vP4 l L p = (0, p.2 + (mvB (mvP l L p)).length) ∧ p.2 + (mvB (mvP l L p)).length ≤ L := by
  have h3 : (vP3 l L p).1 = 0 := atT_z h
  have h2 : (vP2 l L p).1 = 0 := atN_z h3
  have h1 : (vP1 l L p).1 = 0 := atN_z h2
  obtain ⟨-, a2, a3, a4, a5⟩ := ok_text h1 hL hp hb (by decide)
  have q1 : vP1 l L p = (0, p.2 + 1 + (vNm l L p).size) := a2
  have e1 : (vP1 l L p).2 = p.2 + 1 + (vNm l L p).size := by rw [q1]
  have a5' : p.2 + 1 + (vNm l L p).size ≤ L := a5
  obtain ⟨-, b2, b3, b4⟩ := ok_id (p := vP1 l L p) h2 hL (by rw [e1]; exact a5')
  have q2 : vP2 l L p = (0, p.2 + 1 + (vNm l L p).size + 32) := by
    have : vP2 l L p = (0, (vP1 l L p).2 + 32) := b2
    rw [this, e1]
  have e2 : (vP2 l L p).2 = p.2 + 1 + (vNm l L p).size + 32 := by rw [q2]
  rw [e1] at b3 b4
  obtain ⟨-, c2, c3, c4⟩ := ok_id (p := vP2 l L p) h3 hL (by rw [e2]; exact b4)
  have q3 : vP3 l L p = (0, p.2 + 1 + (vNm l L p).size + 32 + 32) := by
    have : vP3 l L p = (0, (vP2 l L p).2 + 32) := c2
    rw [this, e2]
  have e3 : (vP3 l L p).2 = p.2 + 1 + (vNm l L p).size + 32 + 32 := by rw [q3]
  rw [e2] at c3 c4
  obtain ⟨-, d2, d3, d4, d5⟩ := ok_text (p := vP3 l L p) h hL (by rw [e3]; exact c4) hb (by decide)
  rw [e3] at d2 d3 d5
  have hod : (vOd l L p).length = 32 := geI_len l L _
  have hnw : (vNw l L p).length = 32 := geI_len l L _
  have hF : MvF (mvP l L p) := ⟨hod, hnw, a4, d4⟩
  have hlen := mvB_len hF
  have n1 : (mvP l L p).nm = vNm l L p := rfl
  have n2 : (mvP l L p).wy = vWy l L p := rfl
  rw [n1, n2] at hlen
  have d5' : p.2 + 1 + (vNm l L p).size + 32 + 32 + 2 + (vWy l L p).size ≤ L := d5
  refine ⟨?_, hF, ?_, by rw [hlen]; omega⟩
  · have s1 : Sd l p.2 (be 1 ((vNm l L p).size : Int) ++ sv (vNm l L p)) := a3
    have s2 : Sd l (p.2 + 1 + (vNm l L p).size) (vOd l L p) := b3
    have s3 : Sd l (p.2 + 1 + (vNm l L p).size + 32) (vNw l L p) := c3
    have s4 : Sd l (p.2 + 1 + (vNm l L p).size + 32 + 32) (be 2 ((vWy l L p).size : Int) ++ sv (vWy l L p)) := d3
    refine Sd.join (Sd.join (Sd.join s1 ?_) ?_) ?_
    · rw [List.length_append, be_length, sv_len, ← Nat.add_assoc]; exact s2
    · simp only [List.length_append, be_length, sv_len, ← Nat.add_assoc]
      have : (mvP l L p).od.length = 32 := hod
      rw [this]; exact s3
    · simp only [List.length_append, be_length, sv_len, ← Nat.add_assoc]
      have o1 : (mvP l L p).od.length = 32 := hod
      have o2 : (mvP l L p).nw.length = 32 := hnw
      rw [o1, o2]; exact s4
  · have : vP4 l L p = (0, p.2 + 1 + (vNm l L p).size + 32 + 32 + 2 + (vWy l L p).size) := d2
    rw [this, hlen]
    simp only [Prod.mk.injEq, true_and]
    omega
theorem ok_mvs : ∀ (n : Nat) (p : Pl) (acc : List Mv), (mvL l L n p acc).1.1 = 0 → p.2 ≤ L → ∃ ms, (mvL l L n p acc) = ((0, p.2 + (mvBs ms).length), acc ++ ms) ∧ ms.length = n ∧ (∀ m ∈ ms, MvF m) ∧ Sd l p.2 (mvBs ms) ∧ p.2 + (mvBs ms).length ≤ L
  | 0, p, acc, h, hp => ⟨[], by
      have h0 : p.1 = 0 := h
      show (p, acc) = _
      rw [show p = (0, p.2) from Prod.ext h0 rfl]
      simp [mvBs], rfl, fun m hm => absurd hm (by simp), Sd.nil (by omega), by simpa [mvBs] using hp⟩
  | n + 1, p, acc, h, hp => by
    have h0 := mvL_z h
    rw [mvL, if_pos h0] at h ⊢
    obtain ⟨a1, a2, a3, a4⟩ := ok_mv hL hb (mvL_z h) hp
    have e3 : (vP4 l L p).2 = p.2 + (mvB (mvP l L p)).length := by rw [a3]
    obtain ⟨ms, b1, b2, b3, b4, b5⟩ := ok_mvs n _ _ h (by rw [e3]; exact a4)
    rw [e3] at b1 b4 b5
    have e : mvBs (mvP l L p :: ms) = mvB (mvP l L p) ++ mvBs ms := rfl
    refine ⟨mvP l L p :: ms, ?_, by rw [List.length_cons, b2], fun m hm => ?_, by rw [e]; exact a1.join b4, by rw [e, List.length_append, ← Nat.add_assoc]; exact b5⟩
    · rw [b1, e, List.length_append, List.append_assoc, Nat.add_assoc]; rfl
    · rcases List.mem_cons.1 hm with rfl | hm
      · exact a2
      · exact b3 m hm
theorem ok_tds : ∀ (n : Nat) (p : Pl) (acc : List Td), (tdL l L n p acc).1.1 = 0 → p.2 ≤ L → ∃ ts, (tdL l L n p acc) = ((0, p.2 + 33 * ts.length), acc ++ ts) ∧ ts.length = n ∧ (∀ t ∈ ts, t.id.length = 32 ∧ 0 ≤ t.dd ∧ t.dd ≤ 255) ∧ Sd l p.2 (tdBs ts) ∧ p.2 + 33 * ts.length ≤ L
  | 0, p, acc, h, hp => ⟨[], by
      have h0 : p.1 = 0 := h
      show (p, acc) = _
      rw [show p = (0, p.2) from Prod.ext h0 rfl]
      simp, rfl, fun m hm => absurd hm (by simp), Sd.nil (by omega), by simpa using hp⟩
  | n + 1, p, acc, h, hp => by
    have h0 := tdL_z h
    rw [tdL, if_pos h0] at h ⊢
    have h2 := tdL_z h
    have h1 := atN_z h2
    obtain ⟨-, a2, a3, a4⟩ := ok_num h1 hL hp hb (by decide)
    have e1 : (atN l L p 1).2 = p.2 + 1 := by rw [a2]
    obtain ⟨-, b2, b3, b4⟩ := ok_id h2 hL (by rw [e1]; exact a4)
    rw [e1] at b2 b3 b4
    have e2 : (atN l L (atN l L p 1) 32).2 = p.2 + 1 + 32 := by rw [b2]
    obtain ⟨ts, c1, c2, c3, c4, c5⟩ := ok_tds n _ _ h (by rw [e2]; exact b4)
    rw [e2] at c1 c4 c5
    have hlt : geN l L p 1 < 256 ^ 1 := geN_lt (by decide) hL hb
    refine ⟨⟨(geN l L p 1 : Nat), geI l L (atN l L p 1)⟩ :: ts, ?_, by rw [List.length_cons, c2], fun m hm => ?_, ?_, by rw [List.length_cons]; omega⟩
    · rw [c1, List.append_assoc, List.length_cons, show p.2 + 1 + 32 + 33 * ts.length = p.2 + 33 * (ts.length + 1) by omega]; rfl
    · rcases List.mem_cons.1 hm with rfl | hm
      · exact ⟨geI_len l L _, by show (0 : Int) ≤ ((geN l L p 1 : Nat) : Int); omega, by show ((geN l L p 1 : Nat) : Int) ≤ 255; omega⟩
      · exact c3 m hm
    · rw [be_one _ (by omega) (by omega)] at a3
      have hx : Sd l p.2 (((geN l L p 1 : Nat) : Int) :: geI l L (atN l L p 1)) := Sd.join a3 b3
      have e : tdBs (⟨(geN l L p 1 : Nat), geI l L (atN l L p 1)⟩ :: ts) = (((geN l L p 1 : Nat) : Int) :: geI l L (atN l L p 1)) ++ tdBs ts := rfl
      rw [e]
      refine hx.join ?_
      rw [List.length_cons, geI_len]
      exact c4
def ypB (y : Yp) : List Int := y.1 ++ be 4 (y.2.length : Int) ++ y.2
def ypBs (ys : List Yp) : List Int := ys.flatMap ypB
omit hL hb in
theorem ypBs_my : ∀ ys : List My, (∀ y ∈ ys, y.l.length = y.n) → ypBs (ys.map My.pl) = myBs ys
  | [], _ => rfl
  | y :: ys, h => by
    have e1 : ypBs ((y :: ys).map My.pl) = ypB y.pl ++ ypBs (ys.map My.pl) := rfl
    have e2 : myBs (y :: ys) = myB y ++ myBs ys := rfl
    rw [e1, e2, ypBs_my ys (fun z hz => h z (List.mem_cons_of_mem _ hz))]
    have : ypB y.pl = myB y := by
      unfold ypB myB My.pl
      rw [h y (List.mem_cons_self ..)]
    rw [this]
theorem ok_yms : ∀ (n : Nat) (p : Pl) (acc : List Yp), (ymL l L n p acc).1.1 = 0 → p.2 ≤ L → ∃ ys, (ymL l L n p acc) = ((0, p.2 + (ypBs ys).length), acc ++ ys) ∧ ys.length = n ∧ Sd l p.2 (ypBs ys) ∧ p.2 + (ypBs ys).length ≤ L
  | 0, p, acc, h, hp => ⟨[], by
      have h0 : p.1 = 0 := h
      show (p, acc) = _
      rw [show p = (0, p.2) from Prod.ext h0 rfl]
      simp [ypBs], rfl, Sd.nil (by omega), by simpa [ypBs] using hp⟩
  | n + 1, p, acc, h, hp => by
    have h0 := ymL_z h
    rw [ymL, if_pos h0] at h ⊢
    have h3 : (yP3 l L p).1 = 0 := ymL_z h
    have h2 : (yP2 l L p).1 = 0 := atN_z h3
    have h1 : (yP1 l L p).1 = 0 := atN_z h2
    obtain ⟨-, a2, a3, a4⟩ := ok_id h1 hL hp
    have e1 : (yP1 l L p).2 = p.2 + 32 := by
      have : yP1 l L p = (0, p.2 + 32) := a2
      rw [this]
    obtain ⟨-, b2, b3, b4⟩ := ok_num (p := yP1 l L p) h2 hL (by rw [e1]; exact a4) hb (by decide)
    rw [e1] at b2 b3 b4
    have e2 : (yP2 l L p).2 = p.2 + 32 + 4 := by
      have : yP2 l L p = (0, p.2 + 32 + 4) := b2
      rw [this]
    obtain ⟨-, c2, c3, c4⟩ := ok_at (p := yP2 l L p) h3 hL (by rw [e2]; exact b4)
    have hlec := c4.le
    rw [e2] at c2 c4 hlec
    rw [c3] at hlec
    have hM : yM l L p = geN l L (yP1 l L p) 4 := rfl
    have e3 : (yP3 l L p).2 = p.2 + 32 + 4 + yM l L p := by
      have : yP3 l L p = (0, p.2 + 32 + 4 + yM l L p) := c2
      rw [this]
    obtain ⟨ys, d1, d2, d3, d4⟩ := ok_yms n _ _ h (by rw [e3]; omega)
    rw [e3] at d1 d3 d4
    have hy : (ymP l L p) = (yK l L p, yD l L p) := rfl
    have hdl : (yD l L p).length = yM l L p := c3
    have hkl : (yK l L p).length = 32 := geI_len l L _
    have hlen : (ypB (ymP l L p)).length = 32 + 4 + yM l L p := by
      rw [hy]
      simp [ypB, be_length, hdl, hkl]
      omega
    have e : ypBs (ymP l L p :: ys) = ypB (ymP l L p) ++ ypBs ys := rfl
    refine ⟨ymP l L p :: ys, ?_, by rw [List.length_cons, d2], ?_, by rw [e, List.length_append, hlen]; omega⟩
    · rw [d1, e, List.length_append, List.append_assoc, hlen, show p.2 + 32 + 4 + yM l L p + (ypBs ys).length = p.2 + (32 + 4 + yM l L p + (ypBs ys).length) by omega]; rfl
    · rw [e]
      refine Sd.join ?_ (by rw [hlen, show p.2 + (32 + 4 + yM l L p) = p.2 + 32 + 4 + yM l L p by omega]; exact d3)
      rw [hy]
      refine Sd.join (Sd.join a3 ?_) ?_
      · show Sd l (p.2 + (yK l L p).length) (be 4 ((yD l L p).length : Int))
        rw [hkl, hdl, hM]; exact b3
      · rw [List.length_append, be_length]
        show Sd l (p.2 + ((yK l L p).length + 4)) (yD l L p)
        rw [hkl]; exact c4
theorem ok_sq {p : Pl} (h : (sqE l L p).1 = 0) (hp : p.2 ≤ L) : Sd l p.2 (sqP l L p).D.bytes ∧ SqF (sqP l L p).D ∧ sqE l L p = (0, p.2 + (sqP l L p).D.bytes.length) ∧ p.2 + (sqP l L p).D.bytes.length ≤ L := by
  have hklt : sK l L p < 256 ^ 1 := geN_lt (by decide) hL hb
  by_cases hk : sK l L p = 0
  · have eE : sqE l L p = sP1 l L p := by unfold sqE; rw [if_pos hk]
    have eP : sqP l L p = Sq.nil 0 := by unfold sqP; rw [if_pos hk]
    rw [eE] at h ⊢
    rw [eP]
    obtain ⟨-, a2, a3, a4⟩ := ok_num (p := p) (n := 1) h hL hp hb (by decide)
    have a3' : Sd l p.2 (be 1 ((sK l L p : Nat) : Int)) := a3
    rw [hk] at a3'
    exact ⟨a3', ⟨by decide, by decide, by decide, by simp [Sq.D, Sq.nil], by simp [Sq.D, Sq.nil], by simp [Sq.D, Sq.nil], fun t ht => absurd ht (by simp [Sq.D, Sq.nil]), by decide, by decide, by decide, by decide⟩, a2, a4⟩
  · have eE : sqE l L p = sP9 l L p := by unfold sqE; rw [if_neg hk]
    rw [eE] at h ⊢
    have hst : ¬ 1 < sSt l L p := by
      intro hh
      unfold sP9 at h
      rw [if_pos hh] at h
      have h2 : fl (sP8 l L p).1 16 = 0 := h
      unfold fl at h2
      split at h2
      · exact absurd h2 (by decide)
      · rename_i h3; exact h3 h2
    have e9 : sP9 l L p = sP8 l L p := by unfold sP9; rw [if_neg hst]
    rw [e9] at h ⊢
    have h7 : (sP7 l L p).1 = 0 := atN_z h
    have h6 : (sP6 l L p).1 = 0 := atN_z h7
    have hQ : (sQ l L p).1.1 = 0 := atN_z h6
    have h5 : (sP5 l L p).1 = 0 := tdL_z hQ
    have h4 : (sP4 l L p).1 = 0 := atN_z h5
    have h3 : (sP3 l L p).1 = 0 := atN_z h4
    have h2 : (sP2 l L p).1 = 0 := atN_z h3
    have h1 : (sP1 l L p).1 = 0 := atT_z h2
    obtain ⟨-, a1, a2, a3⟩ := ok_num (p := p) (n := 1) h1 hL hp hb (by decide)
    have e1 : (sP1 l L p).2 = p.2 + 1 := by
      have : sP1 l L p = (0, p.2 + 1) := a1
      rw [this]
    obtain ⟨-, b1, b2, b3, b4⟩ := ok_text (p := sP1 l L p) h2 hL (by rw [e1]; exact a3) hb (by decide)
    rw [e1] at b1 b2 b4
    have e2 : (sP2 l L p).2 = p.2 + 1 + 1 + (sBr l L p).size := by
      have : sP2 l L p = (0, p.2 + 1 + 1 + (sBr l L p).size) := b1
      rw [this]
    have b4' : p.2 + 1 + 1 + (sBr l L p).size ≤ L := b4
    obtain ⟨-, c1, c2, c3⟩ := ok_id (p := sP2 l L p) h3 hL (by rw [e2]; exact b4')
    rw [e2] at c1 c2 c3
    have e3 : (sP3 l L p).2 = p.2 + 1 + 1 + (sBr l L p).size + 32 := by
      have : sP3 l L p = (0, p.2 + 1 + 1 + (sBr l L p).size + 32) := c1
      rw [this]
    obtain ⟨-, d1, d2, d3⟩ := ok_id (p := sP3 l L p) h4 hL (by rw [e3]; exact c3)
    rw [e3] at d1 d2 d3
    have e4 : (sP4 l L p).2 = p.2 + 1 + 1 + (sBr l L p).size + 32 + 32 := by
      have : sP4 l L p = (0, p.2 + 1 + 1 + (sBr l L p).size + 32 + 32) := d1
      rw [this]
    obtain ⟨-, f1, f2, f3⟩ := ok_num (p := sP4 l L p) (n := 2) h5 hL (by rw [e4]; exact d3) hb (by decide)
    rw [e4] at f1 f2 f3
    have e5 : (sP5 l L p).2 = p.2 + 1 + 1 + (sBr l L p).size + 32 + 32 + 2 := by
      have : sP5 l L p = (0, p.2 + 1 + 1 + (sBr l L p).size + 32 + 32 + 2) := f1
      rw [this]
    obtain ⟨ts, g1, g2, g3, g4, g5⟩ := ok_tds hL hb (sM l L p) (sP5 l L p) [] hQ (by rw [e5]; exact f3)
    rw [e5] at g1 g4 g5
    rw [List.nil_append] at g1
    have eQ : sQ l L p = ((0, p.2 + 1 + 1 + (sBr l L p).size + 32 + 32 + 2 + 33 * ts.length), ts) := g1
    obtain ⟨-, i1, i2, i3⟩ := ok_num (p := (sQ l L p).1) (n := 2) h6 hL (by rw [eQ]; exact g5) hb (by decide)
    have eQ2 : (sQ l L p).1.2 = p.2 + 1 + 1 + (sBr l L p).size + 32 + 32 + 2 + 33 * ts.length := by rw [eQ]
    rw [eQ2] at i1 i2 i3
    have e6 : (sP6 l L p).2 = p.2 + 1 + 1 + (sBr l L p).size + 32 + 32 + 2 + 33 * ts.length + 2 := by
      have : sP6 l L p = (0, p.2 + 1 + 1 + (sBr l L p).size + 32 + 32 + 2 + 33 * ts.length + 2) := i1
      rw [this]
    obtain ⟨-, j1, j2, j3⟩ := ok_num (p := sP6 l L p) (n := 2) h7 hL (by rw [e6]; exact i3) hb (by decide)
    rw [e6] at j1 j2 j3
    have e7 : (sP7 l L p).2 = p.2 + 1 + 1 + (sBr l L p).size + 32 + 32 + 2 + 33 * ts.length + 2 + 2 := by
      have : sP7 l L p = (0, p.2 + 1 + 1 + (sBr l L p).size + 32 + 32 + 2 + 33 * ts.length + 2 + 2) := j1
      rw [this]
    obtain ⟨-, k1, k2, k3⟩ := ok_num (p := sP7 l L p) (n := 1) h hL (by rw [e7]; exact j3) hb (by decide)
    rw [e7] at k1 k2 k3
    have hml : sM l L p < 256 ^ 2 := geN_lt (by decide) hL hb
    have hdl : sDn l L p < 256 ^ 2 := geN_lt (by decide) hL hb
    have hmdl : sMd l L p < 256 ^ 2 := geN_lt (by decide) hL hb
    have hog : (sOg l L p).length = 32 := geI_len l L _
    have hcu : (sCu l L p).length = 32 := geI_len l L _
    have htl := tdBs_len ts (fun t ht => (g3 t ht).1)
    have eP : (sqP l L p).D = ⟨(sK l L p : Nat), sBr l L p, sOg l L p, sCu l L p, ts, (sDn l L p : Nat), (sMd l L p : Nat), sSt l L p == 1⟩ := by
      unfold sqP
      rw [if_neg hk, eQ]
      rfl
    rw [eP]
    obtain ⟨z1, hz1⟩ : ∃ z1 : Int, z1 = if (sSt l L p == 1) = true then 1 else 0 := ⟨_, rfl⟩
    have hz : ((sSt l L p : Nat) : Int) = z1 := by
      rw [hz1]
      by_cases h1 : sSt l L p = 1
      · rw [h1]; rfl
      · have : sSt l L p = 0 := by omega
        rw [this]; rfl
    have eB : (⟨(sK l L p : Nat), sBr l L p, sOg l L p, sCu l L p, ts, (sDn l L p : Nat), (sMd l L p : Nat), sSt l L p == 1⟩ : SqD).bytes = be 1 ((sK l L p : Nat) : Int) ++ (sqH (sBr l L p) (sOg l L p) (sCu l L p) ts.length ++ tdBs ts ++ (be 2 ((sDn l L p : Nat) : Int) ++ be 2 ((sMd l L p : Nat) : Int) ++ [z1])) := by
      unfold SqD.bytes sqBs
      rw [if_neg (by show ¬ ((sK l L p : Nat) : Int) = 0; omega), be_one _ (by omega) (by omega), hz1]
      rfl
    have hlen : (be 1 ((sK l L p : Nat) : Int) ++ (sqH (sBr l L p) (sOg l L p) (sCu l L p) ts.length ++ tdBs ts ++ (be 2 ((sDn l L p : Nat) : Int) ++ be 2 ((sMd l L p : Nat) : Int) ++ [z1]))).length = 1 + (1 + (sBr l L p).size + 32 + 32 + 2 + 33 * ts.length + (2 + 2 + 1)) := by
      simp [sqH, be_length, sv_len, hog, hcu, htl]
      omega
    rw [eB, hlen]
    have k1' : sP8 l L p = (0, p.2 + 1 + 1 + (sBr l L p).size + 32 + 32 + 2 + 33 * ts.length + 2 + 2 + 1) := k1
    refine ⟨?_, ⟨by show (0 : Int) ≤ ((sK l L p : Nat) : Int); omega, by show ((sK l L p : Nat) : Int) ≤ 255; omega, b3, hog, hcu, by show ts.length ≤ 65535; omega, g3, by show (0 : Int) ≤ ((sDn l L p : Nat) : Int); omega, by show ((sDn l L p : Nat) : Int) ≤ 65535; omega, by show (0 : Int) ≤ ((sMd l L p : Nat) : Int); omega, by show ((sMd l L p : Nat) : Int) ≤ 65535; omega⟩, by rw [k1']; simp only [Prod.mk.injEq, true_and]; omega, by omega⟩
    have s1 : Sd l p.2 (be 1 ((sK l L p : Nat) : Int)) := a2
    have s2 : Sd l (p.2 + 1) (be 1 ((sBr l L p).size : Int) ++ sv (sBr l L p)) := b2
    have s3 : Sd l (p.2 + 1 + 1 + (sBr l L p).size) (sOg l L p) := c2
    have s4 : Sd l (p.2 + 1 + 1 + (sBr l L p).size + 32) (sCu l L p) := d2
    have s5 : Sd l (p.2 + 1 + 1 + (sBr l L p).size + 32 + 32) (be 2 (ts.length : Int)) := by
      have : Sd l (p.2 + 1 + 1 + (sBr l L p).size + 32 + 32) (be 2 ((sM l L p : Nat) : Int)) := f2
      rw [g2]; exact this
    have s6 := g4
    have s7 : Sd l (p.2 + 1 + 1 + (sBr l L p).size + 32 + 32 + 2 + 33 * ts.length) (be 2 ((sDn l L p : Nat) : Int)) := i2
    have s8 : Sd l (p.2 + 1 + 1 + (sBr l L p).size + 32 + 32 + 2 + 33 * ts.length + 2) (be 2 ((sMd l L p : Nat) : Int)) := j2
    have s9 : Sd l (p.2 + 1 + 1 + (sBr l L p).size + 32 + 32 + 2 + 33 * ts.length + 2 + 2) [z1] := by
      have h9 : Sd l (p.2 + 1 + 1 + (sBr l L p).size + 32 + 32 + 2 + 33 * ts.length + 2 + 2) (be 1 ((sSt l L p : Nat) : Int)) := k2
      rw [be_one _ (by omega) (by omega), hz] at h9
      exact h9
    have hHl : (sqH (sBr l L p) (sOg l L p) (sCu l L p) ts.length).length = 1 + (sBr l L p).size + 32 + 32 + 2 := by
      simp only [sqH, List.length_append, be_length, sv_len, hog, hcu]
    have H1 : Sd l (p.2 + 1) (sqH (sBr l L p) (sOg l L p) (sCu l L p) ts.length) := by
      unfold sqH
      refine Sd.join (Sd.join (Sd.join s2 (s3.mv ?_)) (s4.mv ?_)) (s5.mv ?_) <;> (simp only [List.length_append, be_length, sv_len, hog, hcu]; omega)
    have H2 : Sd l (p.2 + 1 + 1 + (sBr l L p).size + 32 + 32 + 2 + 33 * ts.length) (be 2 ((sDn l L p : Nat) : Int) ++ be 2 ((sMd l L p : Nat) : Int) ++ [z1]) := by
      refine Sd.join (Sd.join s7 (s8.mv ?_)) (s9.mv ?_) <;> simp only [List.length_append, be_length]
    refine Sd.join s1 ((Sd.join (Sd.join H1 (s6.mv ?_)) (H2.mv ?_)).mv ?_) 
    · rw [hHl]; omega
    · rw [List.length_append, hHl, htl]; omega
    · rw [be_length]
/-- PARSED, THEN ENCODED -/
theorem tx_again (P : TxS) (hpl : P.pl = ptP l L) (hR : ∃ G w, P.Rd G w) (h0 : xF l L = 0) : txE P.D = 0 ∧ txB P.D = l := by
  obtain ⟨G, w, hR⟩ := hR
  rw [ptP, if_pos h0] at hpl
  simp only [TxS.pl, TxP.mk.injEq] at hpl
  obtain ⟨e1, e2, e3, e4, e5, e6⟩ := hpl
  have h0' : enF (xR l L (0, 0)).1.1 (xR l L (0, 0)).1.2 L = 0 := h0
  have hend : (xR l L (0, 0)).1.1 = 0 ∧ (xR l L (0, 0)).1.2 = L := by
    unfold enF at h0'
    split at h0'
    · rename_i h; exact ⟨h0', h⟩
    · unfold fl at h0'
      split at h0'
      · exact absurd h0' (by decide)
      · rename_i h; exact absurd h0' h
  have hz6 : (xP6 l L (0, 0)).1 = 0 := ymL_z hend.1
  have hz5 : (xP5 l L (0, 0)).1 = 0 := atN_z hz6
  have hzQ : (xQ l L (0, 0)).1.1 = 0 := by
    unfold xP5 at hz5
    split at hz5
    · exact sqE_z hz5
    · exact hz5
  have hz4 : (xP4 l L (0, 0)).1 = 0 := mvL_z hzQ
  have hz3 : (xP3 l L (0, 0)).1 = 0 := atN_z hz4
  have hz2 : (xP2 l L (0, 0)).1 = 0 := by
    unfold xP3 at hz3
    split at hz3
    · exact atT_z hz3
    · exact hz3
  have hx3 : ¬ 3 < xH l L (0, 0) := by
    intro hh
    unfold xP2 at hz2
    rw [if_pos hh] at hz2
    have h2 : fl (xP1 l L (0, 0)).1 16 = 0 := hz2
    unfold fl at h2
    split at h2
    · exact absurd h2 (by decide)
    · rename_i h3; exact h3 h2
  have p2 : xP2 l L (0, 0) = xP1 l L (0, 0) := by unfold xP2; rw [if_neg hx3]
  have hz1 : (xP1 l L (0, 0)).1 = 0 := by rw [← p2]; exact hz2
  obtain ⟨-, a1, a2, a3⟩ := ok_num (p := (0, 0)) (n := 1) hz1 hL (Nat.zero_le _) hb (by decide)
  have q1 : xP1 l L (0, 0) = (0, 0 + 1) := a1
  rw [q1] at p2
  -- the flags
  have hfg : fgB (xHh l L (0, 0)) (xHs l L (0, 0)) = ((xH l L (0, 0) : Nat) : Int) := by
    have : xH l L (0, 0) = 0 ∨ xH l L (0, 0) = 1 ∨ xH l L (0, 0) = 2 ∨ xH l L (0, 0) = 3 := by omega
    unfold xHh xHs
    rcases this with h | h | h | h <;> rw [h] <;> rfl
  -- the head
  obtain ⟨Hd, hHd⟩ : ∃ Hd : List Int, Hd = if xHh l L (0, 0) = true then be 1 ((xHd l L (0, 0)).size : Int) ++ sv (xHd l L (0, 0)) else [] := ⟨_, rfl⟩
  have hh : Sd l (0 + 1) Hd ∧ xP3 l L (0, 0) = (0, 0 + 1 + Hd.length) ∧ 0 + 1 + Hd.length ≤ L ∧ (akH (xHh l L (0, 0)) (xHd l L (0, 0))).size ≤ 255 := by
    cases hc : xHh l L (0, 0) with
    | false =>
      rw [hc] at hHd
      have e : Hd = [] := by rw [hHd]; rfl
      rw [e]
      refine ⟨Sd.nil (by omega), ?_, by simpa using a3, by show (0 : Nat) ≤ 255; decide⟩
      unfold xP3
      rw [hc, if_neg (by decide), p2]
      rfl
    | true =>
      rw [hc] at hHd
      have e : Hd = be 1 ((xHd l L (0, 0)).size : Int) ++ sv (xHd l L (0, 0)) := by rw [hHd]; rfl
      have eh : xHd l L (0, 0) = geT l L (0, 0 + 1) 1 255 := by unfold xHd; rw [hc, if_pos rfl, p2]
      have e3' : xP3 l L (0, 0) = atT l L (0, 0 + 1) 1 255 := by unfold xP3; rw [hc, if_pos rfl, p2]
      rw [e3'] at hz3
      obtain ⟨-, b1, b2, b3, b4⟩ := ok_text (p := (0, 0 + 1)) hz3 hL a3 hb (by decide)
      rw [← eh] at b1 b2 b3 b4
      rw [e, e3', b1]
      have hl : (be 1 ((xHd l L (0, 0)).size : Int) ++ sv (xHd l L (0, 0))).length = 1 + (xHd l L (0, 0)).size := by simp [be_length, sv_len]
      rw [hl]
      exact ⟨b2, by simp only [Prod.mk.injEq, true_and]; omega, by have : (0 + 1 : Nat) + 1 + (xHd l L (0, 0)).size ≤ L := b4; omega, b3⟩
  obtain ⟨g1, g2, g3, g4⟩ := hh
  obtain ⟨-, b1, b2, b3⟩ := ok_num (p := xP3 l L (0, 0)) (n := 2) hz4 hL (by rw [g2]; exact g3) hb (by decide)
  rw [g2] at b1 b2 b3
  have q4 : xP4 l L (0, 0) = (0, 0 + 1 + Hd.length + 2) := by
    have : xP4 l L (0, 0) = atN l L (xP3 l L (0, 0)) 2 := rfl
    rw [this, g2]; exact b1
  have b3' : 0 + 1 + Hd.length + 2 ≤ L := b3
  obtain ⟨ms, c1, c2, c3, c4, c5⟩ := ok_mvs hL hb (xM l L (0, 0)) (xP4 l L (0, 0)) [] hzQ (by rw [q4]; exact b3')
  rw [q4] at c1 c4 c5
  rw [List.nil_append] at c1
  have eQ : xQ l L (0, 0) = ((0, 0 + 1 + Hd.length + 2 + (mvBs ms).length), ms) := by
    show mvL l L (xM l L (0, 0)) (xP4 l L (0, 0)) [] = _
    rw [q4]; exact c1
  have c5' : 0 + 1 + Hd.length + 2 + (mvBs ms).length ≤ L := c5
  have hms : P.ms = ms := by rw [e3, eQ]
  -- the sequence
  obtain ⟨Sb, hSb⟩ : ∃ Sb : List Int, Sb = if xHs l L (0, 0) = true then (xSq l L (0, 0)).D.bytes else [] := ⟨_, rfl⟩
  have hsq : Sd l (0 + 1 + Hd.length + 2 + (mvBs ms).length) Sb ∧ xP5 l L (0, 0) = (0, 0 + 1 + Hd.length + 2 + (mvBs ms).length + Sb.length) ∧ 0 + 1 + Hd.length + 2 + (mvBs ms).length + Sb.length ≤ L ∧ SqF (xSq l L (0, 0)).D := by
    cases hc : xHs l L (0, 0) with
    | false =>
      rw [hc] at hSb
      have e : Sb = [] := by rw [hSb]; rfl
      have e1 : xSq l L (0, 0) = Sq.nil 0 := by unfold xSq; rw [hc, if_neg (by decide)]
      rw [e, e1]
      refine ⟨Sd.nil (by omega), ?_, by simpa using c5', ⟨by decide, by decide, by decide, by simp [Sq.D, Sq.nil], by simp [Sq.D, Sq.nil], by simp [Sq.D, Sq.nil], fun t ht => absurd ht (by simp [Sq.D, Sq.nil]), by decide, by decide, by decide, by decide⟩⟩
      unfold xP5
      rw [hc, if_neg (by decide), eQ]
      rfl
    | true =>
      rw [hc] at hSb
      have e : Sb = (xSq l L (0, 0)).D.bytes := by rw [hSb]; rfl
      have e1 : xSq l L (0, 0) = sqP l L (xQ l L (0, 0)).1 := by unfold xSq; rw [hc, if_pos rfl]
      have e5' : xP5 l L (0, 0) = sqE l L (xQ l L (0, 0)).1 := by unfold xP5; rw [hc, if_pos rfl]
      rw [e5'] at hz5
      obtain ⟨s1, s2, s3, s4⟩ := ok_sq hL hb hz5 (by rw [eQ]; exact c5')
      rw [← e1, eQ] at s1 s4
      rw [← e1] at s2 s3
      rw [e, e5', s3, eQ]
      exact ⟨s1, rfl, s4, s2⟩
  obtain ⟨s1, s2, s3, s4⟩ := hsq
  obtain ⟨-, d1, d2, d3⟩ := ok_num (p := xP5 l L (0, 0)) (n := 2) hz6 hL (by rw [s2]; exact s3) hb (by decide)
  rw [s2] at d1 d2 d3
  have q6 : xP6 l L (0, 0) = (0, 0 + 1 + Hd.length + 2 + (mvBs ms).length + Sb.length + 2) := by
    have : xP6 l L (0, 0) = atN l L (xP5 l L (0, 0)) 2 := rfl
    rw [this, s2]; exact d1
  have d3' : 0 + 1 + Hd.length + 2 + (mvBs ms).length + Sb.length + 2 ≤ L := d3
  obtain ⟨yp, f1, f2, f3, f4⟩ := ok_yms hL hb (xN l L (0, 0)) (xP6 l L (0, 0)) [] hend.1 (by rw [q6]; exact d3')
  rw [q6] at f1 f3 f4
  rw [List.nil_append] at f1
  have eR : xR l L (0, 0) = ((0, 0 + 1 + Hd.length + 2 + (mvBs ms).length + Sb.length + 2 + (ypBs yp).length), yp) := by
    show ymL l L (xN l L (0, 0)) (xP6 l L (0, 0)) [] = _
    rw [q6]; exact f1
  have hyp : P.ys.map My.pl = yp := by rw [e6, eR]
  have hyl : ∀ y ∈ P.ys, y.l.length = y.n := fun y hy => (hR.hY.ok y hy).2.2.rd.len
  have hyb : ypBs yp = myBs P.ys := by rw [← hyp]; exact ypBs_my _ hyl
  have hyn : P.ys.length = xN l L (0, 0) := by rw [← f2, ← hyp, List.length_map]
  have hLe : 0 + 1 + Hd.length + 2 + (mvBs ms).length + Sb.length + 2 + (ypBs yp).length = L := by
    have h := hend.2
    rw [eR] at h
    exact h
  have hml : xM l L (0, 0) < 256 ^ 2 := geN_lt (by decide) hL hb
  have hnl : xN l L (0, 0) < 256 ^ 2 := geN_lt (by decide) hL hb
  have hask : P.D.sq.ask P.D.hs = if xHs l L (0, 0) = true then (xSq l L (0, 0)).D else SqD.zero := by
    have hD : P.D.sq = (xSq l L (0, 0)).D := e5
    have hhs : P.D.hs = xHs l L (0, 0) := e4
    rw [hD, hhs]
    unfold SqD.ask
    cases hc : xHs l L (0, 0) with
    | false => rfl
    | true =>
      rw [if_pos rfl]
      by_cases hk : (xSq l L (0, 0)).D.k = 0
      · rw [if_neg (fun h => h.2 hk)]
        have e1 : xSq l L (0, 0) = sqP l L (xQ l L (0, 0)).1 := by unfold xSq; rw [hc, if_pos rfl]
        rw [e1] at hk ⊢
        unfold sqP at hk ⊢
        split
        · rfl
        · rename_i h2
          rw [if_neg h2] at hk
          have : ((sK l L (xQ l L (0, 0)).1 : Nat) : Int) = 0 := hk
          exact absurd (by omega) h2
      · rw [if_pos ⟨rfl, hk⟩]
  have hZF : SqF SqD.zero := ⟨by decide, by decide, by decide, by simp [SqD.zero], by simp [SqD.zero], by simp [SqD.zero], fun t ht => absurd ht (by simp [SqD.zero]), by decide, by decide, by decide, by decide⟩
  have hAF : SqF (P.D.sq.ask P.D.hs) := by
    rw [hask]
    split
    · exact s4
    · exact hZF
  have hAk : (akH P.D.hh P.D.hd).size ≤ 255 := by
    have h1 : P.D.hh = xHh l L (0, 0) := e1
    have h2 : P.D.hd = xHd l L (0, 0) := e2
    rw [h1, h2]; exact g4
  have hPm : P.D.ms = ms := hms
  have hPy : P.D.ys = P.ys := rfl
  refine ⟨?_, ?_⟩
  · unfold txE
    rw [if_neg, if_neg, if_neg]
    · unfold nfB tdB fitB
      simp only [Bool.and_eq_false_iff, decide_eq_false_iff_not, List.all_eq_false]
      intro h
      rcases h with ⟨x, hx, hn⟩ | h | h | h
      · have := hAF.ts x hx
        simp only [decide_eq_true_eq] at hn
        exact hn ⟨this.2.1, this.2.2⟩
      · exact h ⟨hAF.k0, hAF.k1⟩
      · exact h ⟨hAF.d0, hAF.d1⟩
      · exact h ⟨hAF.m0, hAF.m1⟩
    · unfold lgB
      rw [hPm]
      simp only [Bool.or_eq_true, decide_eq_true_eq, List.any_eq_true]
      intro h
      rcases h with ⟨m, hm, hn⟩ | h | h
      · have := c3 m hm
        unfold mlB at hn
        simp only [Bool.or_eq_true, decide_eq_true_eq] at hn
        have h1 := this.nm
        have h2 := this.wy
        omega
      · omega
      · have := hAF.br; omega
    · rw [hPm, hPy]
      have := hAF.n
      omega
  · have hT : txB P.D = be 1 ((xH l L (0, 0) : Nat) : Int) ++ (Hd ++ be 2 (ms.length : Int) ++ mvBs ms ++ Sb ++ be 2 (P.ys.length : Int) ++ myBs P.ys) := by
      have h1 : P.D.hh = xHh l L (0, 0) := e1
      have h2 : P.D.hd = xHd l L (0, 0) := e2
      have h4 : P.D.hs = xHs l L (0, 0) := e4
      have hSb2 : (if P.D.hs = true then (P.D.sq.ask P.D.hs).bytes else []) = Sb := by
        rw [hask, hSb, h4]
        cases xHs l L (0, 0) <;> rfl
      have : txB P.D = fgB P.D.hh P.D.hs :: ((if P.D.hh = true then be 1 (P.D.hd.size : Int) ++ sv P.D.hd else []) ++ be 2 (P.D.ms.length : Int) ++ mvBs P.D.ms ++ (if P.D.hs = true then (P.D.sq.ask P.D.hs).bytes else []) ++ be 2 (P.D.ys.length : Int) ++ myBs P.D.ys) := rfl
      rw [this, hSb2, hPm, hPy, h1, h2, h4, ← hHd, hfg, be_one _ (by omega) (by omega)]
      rfl
    rw [hT]
    have m1 : Sd l (0 + 1 + Hd.length) (be 2 (ms.length : Int)) := by
      have : Sd l (0 + 1 + Hd.length) (be 2 ((xM l L (0, 0) : Nat) : Int)) := by
        have h := b2
        rw [← g2] at h
        rw [g2] at h
        have e : xM l L (0, 0) = geN l L (xP3 l L (0, 0)) 2 := rfl
        rw [e, g2]; exact h
      rw [c2]; exact this
    have m2 : Sd l (0 + 1 + Hd.length + 2 + (mvBs ms).length + Sb.length) (be 2 (P.ys.length : Int)) := by
      have e : xN l L (0, 0) = geN l L (xP5 l L (0, 0)) 2 := rfl
      rw [hyn, e, s2]; exact d2
    have m3 : Sd l (0 + 1 + Hd.length + 2 + (mvBs ms).length + Sb.length + 2) (myBs P.ys) := by rw [← hyb]; exact f3
    refine Sd.all (Sd.join a2 ((Sd.join (Sd.join (Sd.join (Sd.join (Sd.join g1 (m1.mv ?_)) (c4.mv ?_)) (s1.mv ?_)) (m2.mv ?_)) (m3.mv ?_)).mv ?_)) ?_
    all_goals simp only [List.length_append, be_length]
    all_goals (try rw [← hyb])
    all_goals omega
end
end Go.Proofs.Ytmcmapgllaopmaa.Cd
end

section
namespace Go.Proofs.Ytmcmapgllaopmaa.Cd
open Go.RowKit
set_option linter.unusedVariables false
/-- why bytes are no object -/
def poE (l : List Int) (L : Nat) : Int :=
  if L < 5 then 14 else if poK (l.getD 0 0) = 0 then 3 else if ((L - 5 : Nat) : Int) < nv ((l.drop 1).take 4) then 14 else
  if nv ((l.drop 1).take 4) < ((L - 5 : Nat) : Int) then 15 else ckE (poK (l.getD 0 0)) (l.drop 5) (L - 5)
def ob0 : List Value := [.int .i64 0, .slice none 0 0]
/-- what ParseObj hands back -/
def PoRet (l : List Int) (L : Nat) (w : World) (e : Ending) (w' : World) : Prop :=
  Below w.heap.size w w' ∧
  ((poE l L ≠ 0 ∧ e = .returned (.tuple #[.agg ob0.toArray, .int .i64 (poE l L)])) ∨
   (poE l L = 0 ∧ ∃ A' C', e = .returned (.tuple #[.agg #[.int .i64 (poK (l.getD 0 0)), .slice A' (L - 5) C'], .int .i64 0]) ∧
     w'.ownsRow w.heap.size 5 1 (.slice A' (L - 5) C') (L - 5) (bv (l.drop 5))))
theorem Fin.mk2 {w0 w : World} {B O : Nat} {a b : Value} {f : Nat → Value} (ha : a.oneCell' = true) (hb' : b.oneCell' = true) (hr : w.rowIs O 50 2 f) (hb : Below B w0 w) (hO : B ≤ O) : Fin w0 B w O 50 [a, b] :=
  ⟨fun j hj => by
    have hj : j < 2 := hj
    rw [Nat.zero_add]
    exact ⟨by rw [hr.cell hj]; rfl, hr.frozen _⟩, by kernel_rfl, all_oneCell_toArray (cs := [a, b]) (fun v hv => by
      simp only [List.mem_cons, List.not_mem_nil, or_false] at hv
      rcases hv with rfl | rfl <;> assumption), row_stored hr [a, b] rfl, below_cells hO [a, b] 0 w hb⟩
theorem Fin.row2 {w0 w : World} {B O : Nat} {a b : Value} (h : Fin w0 B w O 50 [a, b]) : (w.setCells O 0 [a, b]).rowIs O 50 2 (fun i => (#[a, b] : Array Value).getD i undef) :=
  ⟨#[a, b], h.stored, rfl, fun i hi => by
    match i, hi with
    | 0, _ => rfl
    | 1, _ => rfl⟩
theorem nv_one (l : List Int) (h : 0 < l.length) : nv (l.take 1) = l.getD 0 0 := by
  cases l with
  | nil => simp at h
  | cons a l => simp [nv]
set_option maxRecDepth 100000 in
set_option maxHeartbeats 2000000 in
theorem parseObj_any (A : Option Addr) (L C : Nat) (l : List Int) (w : World) (h : RdB w A L C l) (hL : L ≤ 140737488000000) :
    Calls Try.prog 26 #[.slice A L C] w (PoRet l L w) := by
  have HRd := Lib.hid h
  have HB0 := Lib.hid (Below.refl w.heap.size w)
  have hlen := h.len
  clear h
  go_enter Try.func26, Try.ntmps26
  go_upto_region 1 with (fail)
  have HO1 : Hid ((w.alloc (.cells #[.int .i64 0, .slice none 0 0] 50)).rowIs w.heap.size 50 2 (fun i => (#[.int .i64 0, .slice none 0 0] : Array Value).getD i undef)) := Lib.hid (row_new w #[.int .i64 0, .slice none 0 0] 50)
  have hX1 : (w.alloc (.cells #[.int .i64 0, .slice none 0 0] 50)).heap.size = w.heap.size + 1 := by show (w.heap.push _).size = _; simp
  have HB1 := Lib.hid (HB0.out.alloc (Nat.le_refl _) (.cells #[.int .i64 0, .slice none 0 0] 50))
  have HRd1 := Lib.hid (HRd.out.below HB1.out)
  have HLt : Hid (∀ x, A = some x → 0 < L → x.block < w.heap.size) := Lib.hid (fun x hx h0 => (HRd.out.cell x hx).1 h0)
  clear HB0 HRd
  generalize w.alloc (.cells #[.int .i64 0, .slice none 0 0] 50) = w1 at *
  go_upto_region 2 with (fail)
  have HB2 := Lib.hid (HB1.out.alloc (show w.heap.size ≤ w1.heap.size by omega) (.cells #[.slice A L C, .int .i64 0, .int .i64 0] 94))
  have HO2 := Lib.hid (World.rowIs.alloc HO1.out (.cells #[.slice A L C, .int .i64 0, .int .i64 0] 94))
  have hr2 := row_new w1 #[.slice A L C, .int .i64 0, .int .i64 0] 94
  have HR2 : Hid (Rdr (w1.alloc (.cells #[.slice A L C, .int .i64 0, .int .i64 0] 94)) w1.heap.size 3 94 A L C l 0 0 (fun _ => undef)) := Lib.hid ⟨hr2.congr (fun j hj => by
      match j, hj with
      | 0, _ => rfl
      | 1, _ => rfl
      | 2, _ => rfl), by decide, HRd1.out.below ((Below.refl w1.heap.size w1).alloc (Nat.le_refl _) _), fun x hx h0 => by have := HLt.out x hx h0; omega, Nat.zero_le _⟩
  clear hr2 HO1 HB1 HRd1
  obtain ⟨R, hR⟩ : ∃ R, R = w.heap.size + 1 := ⟨_, rfl⟩
  obtain ⟨O, hO⟩ : ∃ O, O = w.heap.size := ⟨_, rfl⟩
  rw [hX1, ← hR] at HR2
  rw [← hR]
  rw [← hO] at HO2 HLt ⊢
  have hRO : O < R := by omega
  have hRw : w.heap.size ≤ R := by omega
  clear hX1
  generalize w1.alloc (.cells #[.slice A L C, .int .i64 0, .int .i64 0] 94) = w2 at *
  have HOw := Lib.hid hO
  clear hR hO
  have HBy := Lib.hid (byte_r R 3 94 A L C l 0 0 (fun _ => undef) w2 HR2.out)
  have hRs := HR2.out.row.lt
  clear HR2
  go_wp2_with fail
  refine HBy.out.mono ?_
  rintro e w3 ⟨rfl, hR3, hg3⟩
  have HB3 : Hid (Below w.heap.size w w3) := Lib.hid (HB2.out.grown hg3 (by have := HOw.out; omega) (fun k hk => by have := Option.some.inj hk; omega))
  have HO3 := Lib.hid (World.rowIs.of_block HO2.out (hg3.block O HO2.out.lt (fun e => by have := Option.some.inj e; omega)))
  have hs3 : w2.heap.size ≤ w3.heap.size := hg3.size
  have HNb := Lib.hid (number_r R 3 94 A L C l _ _ (fun _ => undef) 4 w3 hR3 (by omega))
  clear hR3 hg3 HBy HB2 HO2
  obtain ⟨T, hT⟩ : ∃ T, T = nv (tkL 0 l 0 L 1) := ⟨_, rfl⟩
  rw [← hT]
  have HT := Lib.hid hT
  clear hT
  go_wp2_with fail
  refine HNb.out.mono ?_
  rintro e w4 ⟨rfl, hR4, hg4⟩
  have HB4 : Hid (Below w.heap.size w w4) := Lib.hid (HB3.out.grown hg4 (by have := HOw.out; omega) (fun k hk => by have := Option.some.inj hk; omega))
  have HO4 := Lib.hid (World.rowIs.of_block HO3.out (hg4.block O HO3.out.lt (fun e => by have := Option.some.inj e; omega)))
  have hs4 : w3.heap.size ≤ w4.heap.size := hg4.size
  obtain ⟨N, hN⟩ : ∃ N, N = nv (tkL (tkF 0 0 L 1) l (tkA 0 0 L 1) L 4) := ⟨_, rfl⟩
  obtain ⟨F, hF⟩ : ∃ F, F = tkF (tkF 0 0 L 1) (tkA 0 0 L 1) L 4 := ⟨_, rfl⟩
  obtain ⟨P, hP⟩ : ∃ P, P = tkA (tkF 0 0 L 1) (tkA 0 0 L 1) L 4 := ⟨_, rfl⟩
  rw [← hF, ← hP] at hR4
  rw [← hN]
  have HRs := Lib.hid (rest_r R 3 94 A L C l P F (fun _ => undef) w4 hR4)
  have HN := Lib.hid hN
  have HF := Lib.hid hF
  have HP := Lib.hid hP
  have HKd := Lib.hid (kind_any T w4)
  clear hR4 hg4 HNb HB3 HO3 hN hF hP
  go_wp2_with fail
  refine HKd.out.mono ?_
  rintro e w' ⟨rfl, rfl⟩
  go_wp2_with fail
  refine HRs.out.mono ?_
  rintro e w5 ⟨A', C', rfl, hrd, hna, hR5, hg5⟩
  have HB5 : Hid (Below w.heap.size w w5) := Lib.hid (HB4.out.grown hg5 (by have := HOw.out; omega) (fun k hk => by have := Option.some.inj hk; omega))
  have HO5 := Lib.hid (World.rowIs.of_block HO4.out (hg5.block O HO4.out.lt (fun e => by have := Option.some.inj e; omega)))
  have hs5 : w4.heap.size ≤ w5.heap.size := hg5.size
  have HR5 := Lib.hid hR5
  have HRd5 := Lib.hid hrd
  have hF5 : tkF F P L (L - P) = F := by unfold tkF; rw [if_neg (fun hh => by omega)]
  rw [hF5] at HR5
  have hcF : w5.cell? ⟨R, 2, none⟩ = some (.int .i64 F) := HR5.out.c2
  have hOl : w.heap.size ≤ O := by have := HOw.out; omega
  clear hrd hna hR5 hg5 HRs HKd HB4 HO4 hF5
  by_cases h5 : L < 5
  · have hFe : F = 14 := by
      rw [HF.out]
      by_cases h1 : L < 1
      · obtain ⟨e1, e2, -⟩ := tk_cut (f := 0) rfl l 0 L 1 (by omega)
        rw [e1, e2]
        exact (tk_no (f := 14) (by decide) l 0 L 4).1
      · obtain ⟨e1, e2, -⟩ := tk_yes (f := 0) rfl l 0 L 1 (by omega)
        rw [e1, e2]
        exact (tk_cut (f := 0) rfl l _ L 4 (by omega)).1
    have HE : Hid (poE l L = 14) := Lib.hid (by unfold poE; rw [if_pos h5])
    have HFz := Lib.hid (Fin.mk2 (a := .int .i64 0) (b := .slice none 0 0) rfl rfl (World.rowIs.drew HO5.out) HB5.out.drew hOl)
    have HcF : Hid (w5.drew.cell? ⟨R, 2, none⟩ = some (.int .i64 F)) := Lib.hid HR5.out.c2
    have HcF2 : Hid ((w5.drew.setCells O 0 [.int .i64 0, .slice none 0 0]).cell? ⟨R, 2, none⟩ = some (.int .i64 F)) := Lib.hid (Rdr.laid (X := O) (by omega) [.int .i64 0, .slice none 0 0] 0 _ (fun x hx h0 => by have := HLt.out x hx h0; omega) (HR5.out.drewN 1)).c2
    have hd : (F != 0) = true := by rw [hFe]; rfl
    have HFe := Lib.hid hFe
    clear hFe
    go_wp2_with fail
    refine wp_region_noPanic ?_
    refine wp_region_held_drew (S := (fun wS => wS.cell? ⟨R, 2, none⟩ = some (.int .i64 F))) (by kernel_rfl) ?_ (fun hHeld => ?_)
    · ((try dsimp only); exact HcF.out)
    refine wpAnyH_take (i := 0) (oi := { dst := some 29, op := Op.build 50 #[], type := 50, pos := "codec.go:48", after := #[], guard := none }) (v := ?_) rfl (by kernel_rfl) (by kernel_rfl) (by kernel_rfl) (fun _ _ _ h => h) (Or.inl ⟨by rfl, ?_⟩) (by assumption) ?_
    rotate_left 1
    · ((intro w hSw; (try dsimp only at hSw); go_simp) <;> with_reducible rfl)
    (try simp only [Act.put, List.setIfInBounds_toArray, List.set_cons_zero, List.set_cons_succ])
    refine wpAnyH_take (i := 1) (oi := { dst := some 30, op := Op.move (Operand.tmp 4), type := 119, pos := "codec.go:48", after := #[{ on := 5, ground := Ground.gcOnly Departure.lateStores }], guard := none }) (v := ?_) rfl (by kernel_rfl) (by kernel_rfl) (by kernel_rfl) (fun _ _ _ h => h) (Or.inl ⟨by rfl, ?_⟩) (by assumption) ?_
    rotate_left 1
    · ((intro w hSw; (try dsimp only at hSw); go_simp) <;> with_reducible rfl)
    (try simp only [Act.put, List.setIfInBounds_toArray, List.set_cons_zero, List.set_cons_succ])
    refine wpAnyH_take (i := 2) (oi := { dst := some 31, op := Op.nilCheck (Operand.tmp 30), type := 0, pos := "codec.go:48", after := #[{ on := 1, ground := Ground.data }, { on := 5, ground := Ground.gcOnly Departure.lateStores }], guard := none }) (v := ?_) rfl (by kernel_rfl) (by kernel_rfl) (by kernel_rfl) (fun _ _ _ h => h) (Or.inl ⟨by rfl, ?_⟩) (by assumption) ?_
    rotate_left 1
    · ((intro w hSw; (try dsimp only at hSw); go_simp) <;> with_reducible rfl)
    (try simp only [Act.put, List.setIfInBounds_toArray, List.set_cons_zero, List.set_cons_succ])
    refine wpAnyH_take (i := 3) (oi := { dst := some 32, op := Op.fieldAddr 94 (Operand.tmp 31) 2, type := 0, pos := "codec.go:48", after := #[{ on := 2, ground := Ground.data }, { on := 5, ground := Ground.gcOnly Departure.lateStores }], guard := none }) (v := ?_) rfl (by kernel_rfl) (by kernel_rfl) (by kernel_rfl) (fun _ _ _ h => h) (Or.inl ⟨by rfl, ?_⟩) (by assumption) ?_
    rotate_left 1
    · ((intro w hSw; (try dsimp only at hSw); go_simp) <;> with_reducible rfl)
    (try simp only [Act.put, List.setIfInBounds_toArray, List.set_cons_zero, List.set_cons_succ])
    refine wpAnyH_take (i := 4) (oi := { dst := some 33, op := Op.load 25 (Operand.tmp 32), type := 25, pos := "codec.go:48", after := #[{ on := 3, ground := Ground.data }, { on := 5, ground := Ground.gcOnly Departure.lateStores }], guard := none }) (v := ?_) rfl (by kernel_rfl) (by kernel_rfl) (by kernel_rfl) (fun _ _ _ h => h) (Or.inl ⟨by rfl, ?_⟩) (by assumption) ?_
    rotate_left 1
    · ((intro w hSw; (try dsimp only at hSw); go_simp) <;> with_reducible rfl)
    (try simp only [Act.put, List.setIfInBounds_toArray, List.set_cons_zero, List.set_cons_succ])
    refine wpAnyH_ready (rs := [5]) (by kernel_rfl) (by simp) ?_
    refine AllReadyH.cons (o := { dst := none, op := Op.store 50 (Operand.tmp 2) (Operand.tmp 29), type := 0, pos := "codec.go:48", after := #[{ on := 0, ground := Ground.data }, { on := 0, ground := Ground.phase }, { on := 1, ground := Ground.textOnly Departure.lateStores }, { on := 2, ground := Ground.textOnly Departure.lateStores }, { on := 3, ground := Ground.textOnly Departure.lateStores }, { on := 4, ground := Ground.textOnly Departure.lateStores }], guard := none }) rfl (fun K hK => ?_) ?_
    · refine step_store_mid rfl _ _ _ rfl O 0 [.int .i64 0, .slice none 0 0].toArray rfl rfl HFz.out.there HFz.out.size HFz.out.one ?_
      (try go_wp2_with fail)
      refine hK.out _ _ ?_ (fun hNew => ?_)
      · ((try dsimp only); exact HcF2.out)
      clear hK K hHeld
      have hHeld := hNew
      clear hNew
      (try simp only [Act.put, List.setIfInBounds_toArray, List.set_cons_zero, List.set_cons_succ])
      refine wpAnyH_take (i := 6) (oi := { dst := some 3, op := Op.assign (Operand.tmp 33), type := 25, pos := "codec.go:48", after := #[{ on := 4, ground := Ground.data }, { on := 5, ground := Ground.chain }, { on := 0, ground := Ground.phase }, { on := 1, ground := Ground.phase }, { on := 2, ground := Ground.phase }, { on := 3, ground := Ground.phase }, { on := 4, ground := Ground.phase }, { on := 5, ground := Ground.phase }], guard := none }) (v := ?_) rfl (by kernel_rfl) (by kernel_rfl) (by kernel_rfl) (fun _ _ _ h => h) (Or.inl ⟨by rfl, ?_⟩) (by assumption) ?_
      rotate_left 1
      · ((intro w hSw; (try dsimp only at hSw); go_simp) <;> with_reducible rfl)
      (try simp only [Act.put, List.setIfInBounds_toArray, List.set_cons_zero, List.set_cons_succ])
      refine wpAnyH_done (by kernel_rfl) ?_ _
      refine NoPanic.normal ?_
      clear hHeld
      go_wp2_with fail
      refine bodyPost_ret (results_cell2 rfl _ _ O _ _ _ _ rfl HFz.out.stored Try.underlying50 rfl HFz.out.size (.int .i64 F) rfl) rfl ?_
      exact ⟨HFz.out.bel, .inl ⟨by rw [HE.out]; decide, by rw [HE.out, HFe.out]; rfl⟩⟩
    exact AllReadyH.nil
  · have hkb : 0 < l.length := by omega
    have e1 := tk_yes (f := 0) rfl l 0 L 1 (by omega)
    have e2 := tk_yes (f := 0) rfl l (0 + 1) L 4 (by omega)
    have hFe : F = 0 := by rw [HF.out, e1.1, e1.2.1]; exact e2.1
    have hPe : P = 5 := by rw [HP.out, e1.1, e1.2.1]; exact e2.2.1
    have hTe : T = l.getD 0 0 := by rw [HT.out, e1.2.2, List.drop_zero]; exact nv_one l hkb
    have hNe : N = nv ((l.drop 1).take 4) := by rw [HN.out, e1.1, e1.2.1]; rw [e2.2.2]
    obtain rfl : F = 0 := hFe
    obtain rfl : P = 5 := hPe
    have e3 := tk_yes (f := 0) rfl l 5 L (L - 5) (Nat.le_refl _)
    have hbd : tkL 0 l 5 L (L - 5) = l.drop 5 := by rw [e3.2.2, List.take_of_length_le (by rw [List.length_drop]; omega)]
    have hdl : (l.drop 5).length = L - 5 := by rw [List.length_drop]; omega
    have hT0 : Hid (l.getD 0 0 = T) := Lib.hid hTe.symm
    have hN0 : Hid (nv ((l.drop 1).take 4) = N) := Lib.hid hNe.symm
    rw [hbd, hdl] at HRd5
    rw [hbd, hdl]
    have HDl := Lib.hid hdl
    have hF0 : ((0 : Int) != 0) = false := rfl
    have hNb : 0 ≤ N ∧ N < 4294967296 := by
      rw [hNe]
      have hb := nv_bound 4 ((l.drop 1).take 4) (by rw [List.length_take]; omega) (fun i hi => by
        have := HRd5.out.len
        rw [List.length_take, List.length_drop] at hi
        rw [take_getD _ _ _ (by omega)]
        have hr := HR5.out.rd.byte (1 + i) (by omega)
        simpa [List.getD, Nat.add_comm] using hr)
      exact ⟨hb.1, by have := hb.2; omega⟩
    have hN1 := hNb.1
    have hN2 := hNb.2
    generalize hM : L - 5 = M at *
    have hML : M ≤ L := by omega
    have HM := Lib.hid hM
    generalize hBD : l.drop 5 = bd at *
    have HBD := Lib.hid hBD
    have HPE : Hid (poE l L = if poK T = 0 then 3 else if (M : Int) < N then 14 else if N < (M : Int) then 15 else ckE (poK T) bd M) := Lib.hid (by
      unfold poE; rw [if_neg h5, hT0.out, hN0.out, hM, hBD])
    have HPoO : Hid (∀ e w', (Below w.heap.size w w' ∧ ((poE l L ≠ 0 ∧ e = .returned (.tuple #[.agg ob0.toArray, .int .i64 (poE l L)])) ∨ (poE l L = 0 ∧ ∃ A' C', e = .returned (.tuple #[.agg #[.int .i64 (poK T), .slice A' M C'], .int .i64 0]) ∧ w'.ownsRow w.heap.size 5 1 (.slice A' M C') M (bv bd)))) → PoRet l L w e w') := Lib.hid (fun e w' h => by
      unfold PoRet; rw [hT0.out, hM, hBD]; exact h)
    clear e1 e2 e3 hTe hNe hbd hdl hNb hkb hM hBD hlen HF HP HT HN
    have HFz := Lib.hid (Fin.mk2 (a := .int .i64 0) (b := .slice none 0 0) rfl rfl HO5.out HB5.out hOl)
    obtain ⟨K, hK⟩ : ∃ K, K = poK T := ⟨_, rfl⟩
    rw [← hK] at HPE HPoO ⊢
    by_cases hk0 : K = 0
    · have hdk : (K == 0) = true := by simp [hk0]
      have HE : Hid (poE l L = 3) := Lib.hid (by rw [HPE.out, if_pos hk0])
      clear hk0 hK
      go_wp2_with (refine wpList_store_mid rfl _ _ _ rfl O 0 [.int .i64 0, .slice none 0 0].toArray rfl rfl HFz.out.there HFz.out.size HFz.out.one ?_)
      refine bodyPost_ret (results_cell2 rfl _ _ O _ _ _ _ rfl HFz.out.stored Try.underlying50 rfl HFz.out.size (.int .i64 3) rfl) rfl ?_
      exact HPoO.out _ _ ⟨HFz.out.bel, .inl ⟨by rw [HE.out]; decide, by rw [HE.out]; rfl⟩⟩
    · have hdk : (K == 0) = false := by simp [hk0]
      by_cases hlt : (M : Int) < N
      · have HE : Hid (poE l L = 14) := Lib.hid (by rw [HPE.out, if_neg hk0, if_pos hlt])
        have hdl : decide ((M : Int) < N) = true := by simp [hlt]
        clear hk0 hK hlt
        go_wp2_with (refine wpList_store_mid rfl _ _ _ rfl O 0 [.int .i64 0, .slice none 0 0].toArray rfl rfl HFz.out.there HFz.out.size HFz.out.one ?_)
        refine bodyPost_ret (results_cell2 rfl _ _ O _ _ _ _ rfl HFz.out.stored Try.underlying50 rfl HFz.out.size (.int .i64 14) rfl) rfl ?_
        exact HPoO.out _ _ ⟨HFz.out.bel, .inl ⟨by rw [HE.out]; decide, by rw [HE.out]; rfl⟩⟩
      · have hdl : decide ((M : Int) < N) = false := by simp; omega
        by_cases hgt : N < (M : Int)
        · have HE : Hid (poE l L = 15) := Lib.hid (by rw [HPE.out, if_neg hk0, if_neg hlt, if_pos hgt])
          have hdg : decide (N < (M : Int)) = true := by simp [hgt]
          clear hk0 hK hlt hgt
          go_wp2_with (refine wpList_store_mid rfl _ _ _ rfl O 0 [.int .i64 0, .slice none 0 0].toArray rfl rfl HFz.out.there HFz.out.size HFz.out.one ?_)
          refine bodyPost_ret (results_cell2 rfl _ _ O _ _ _ _ rfl HFz.out.stored Try.underlying50 rfl HFz.out.size (.int .i64 15) rfl) rfl ?_
          exact HPoO.out _ _ ⟨HFz.out.bel, .inl ⟨by rw [HE.out]; decide, by rw [HE.out]; rfl⟩⟩
        · have hdg : decide (N < (M : Int)) = false := by simp; omega
          have HE : Hid (poE l L = ckE K bd M) := Lib.hid (by rw [HPE.out, if_neg hk0, if_neg hlt, if_neg hgt])
          have hbx := HB5.out.alloc (show w.heap.size ≤ w5.heap.size by have := HB5.out.size; omega) (.cells #[.int .i64 0, .slice none 0 0] 50)
          have hrx : (w5.alloc (.cells #[.int .i64 0, .slice none 0 0] 50)).rowIs w5.heap.size 50 2 (fun i => (#[.int .i64 0, .slice none 0 0] : Array Value).getD i undef) := row_new w5 #[.int .i64 0, .slice none 0 0] 50
          have HFx := Lib.hid (Fin.mk2 (a := .int .i64 K) (b := .slice A' M C') rfl rfl hrx hbx (show w.heap.size ≤ w5.heap.size by have := HB5.out.size; omega))
          have hOX : O < w5.heap.size := HO5.out.lt
          have hb6 : Below w5.heap.size w5 ((w5.alloc (.cells #[.int .i64 0, .slice none 0 0] 50)).setCells w5.heap.size 0 [.int .i64 K, .slice A' M C']) := below_cells (Nat.le_refl _) _ _ _ ((Below.refl _ _).alloc (Nat.le_refl _) _)
          have HO6 := Lib.hid (World.rowIs.of_block HO5.out (hb6.block O hOX))
          have HRd6 := Lib.hid (HRd5.out.below hb6)
          have HB6 := Lib.hid HFx.out.bel
          have HX6 := Lib.hid HFx.out.row2
          clear hk0 hK hlt hgt hbx hrx hb6 HFz HO5 HR5 HB5 HRd5
          go_upto_region 14 with (refine wpList_store_mid rfl _ _ _ rfl w5.heap.size 0 [.int .i64 K, .slice A' M C'].toArray rfl rfl HFx.out.there HFx.out.size HFx.out.one ?_)
          change Code.wp _ _ _ _ ((w5.alloc (.cells #[.int .i64 0, .slice none 0 0] 50)).setCells w5.heap.size 0 [.int .i64 K, .slice A' M C'])
          clear HFx
          generalize (w5.alloc (.cells #[.int .i64 0, .slice none 0 0] 50)).setCells w5.heap.size 0 [.int .i64 K, .slice A' M C'] = w6 at *
          generalize w5.heap.size = X at *
          have hcx0 : w6.cell? ⟨X, 0, none⟩ = some (.int .i64 K) := HX6.out.cell (i := 0) (by omega)
          have hcx1 : w6.cell? ⟨X, 1, none⟩ = some (.slice A' M C') := HX6.out.cell (i := 1) (by omega)
          have HCk := Lib.hid (ck_any K A' M C' bd w6 HRd6.out)
          have hX6 := HX6.out.lt
          go_wp2_with fail
          refine HCk.out.mono ?_
          rintro e w7 ⟨rfl, hb⟩
          have HB7 := Lib.hid (HB6.out.trans (hb.mono (by have := HB6.out.size; omega)))
          have HO7 := Lib.hid (World.rowIs.of_block HO6.out (hb.block O HO6.out.lt))
          have HX7 := Lib.hid (World.rowIs.of_block HX6.out (hb.block X hX6))
          have HRd7 := Lib.hid (HRd6.out.below hb)
          clear hb HCk HB6 HO6 HX6 HRd6 hcx0 hcx1
          have hX7 := HX7.out.lt
          by_cases he : ckE K bd M = 0
          · rw [he] at HE ⊢
            have HCl := Lib.hid (clone_any A' M C' bd w7 HRd7.out)
            go_wp2_with fail
            refine HCl.out.mono ?_
            rintro e w8 ⟨A2, C2, rfl, ho, hb⟩
            have HB8 := Lib.hid (HB7.out.trans (hb.mono (by have := HB7.out.size; omega)))
            have HO8 := Lib.hid (World.rowIs.of_block HO7.out (hb.block O HO7.out.lt))
            have HX8 := Lib.hid (World.rowIs.of_block HX7.out (hb.block X hX7))
            have HOw8 := Lib.hid ho
            have hX8 := HX8.out.lt
            have hc0 : w8.cell? ⟨X, 0, none⟩ = some (.int .i64 K) := HX8.out.cell (i := 0) (by omega)
            have hc1 : w8.cell? ⟨X, 1, none⟩ = some (.slice A' M C') := HX8.out.cell (i := 1) (by omega)
            have hf1 : w8.frozen? ⟨X, 1, none⟩ = false := HX8.out.frozen 1
            have HO9 : Hid ((w8.setCell ⟨X, 1, none⟩ (.slice A2 M C2)).rowIs O 50 2 (fun i => (#[.int .i64 0, .slice none 0 0] : Array Value).getD i undef)) := Lib.hid (HO8.out.setOther (a := ⟨X, 1, none⟩) (by show O ≠ X; omega) _)
            have HB9 := Lib.hid (HB8.out.setCell (p := ⟨X, 1, none⟩) (show w.heap.size ≤ X by omega) (.slice A2 M C2))
            have HFz := Lib.hid (Fin.mk2 (a := .int .i64 K) (b := .slice A2 M C2) rfl rfl HO9.out HB9.out hOl)
            have HOw9 := Lib.hid (own_grown (own_grown HOw8.out (grown_set w8 X 1 (.slice A2 M C2)) (fun e => by have := (HOw8.out.lt X e).1; omega)) (grown_cells _ O [.int .i64 K, .slice A2 M C2] 0) (fun e => by have := (HOw8.out.lt O e).1; omega))
            clear hb ho HCl HB7 HO7 HX7 HRd7 HB8 HO8 HX8 HOw8 HO9 HB9
            go_wp2_with (refine wpList_store_mid rfl _ _ _ rfl O 0 [.int .i64 K, .slice A2 M C2].toArray rfl rfl HFz.out.there HFz.out.size HFz.out.one ?_)
            refine bodyPost_ret (results_cell2 rfl _ _ O _ _ _ _ rfl HFz.out.stored Try.underlying50 rfl HFz.out.size (.int .i64 0) rfl) rfl ?_
            exact HPoO.out _ _ ⟨HFz.out.bel, .inr ⟨HE.out, A2, C2, rfl, own_base HOw9.out (by omega)⟩⟩
          · have hde : (ckE K bd M != 0) = true := by simp [he]
            have HFz := Lib.hid (Fin.mk2 (a := .int .i64 0) (b := .slice none 0 0) rfl rfl HO7.out HB7.out hOl)
            have HEn : Hid (poE l L ≠ 0) := Lib.hid (by rw [HE.out]; exact he)
            clear he
            generalize ckE K bd M = Ec at *
            go_wp2_with (refine wpList_store_mid rfl _ _ _ rfl O 0 [.int .i64 0, .slice none 0 0].toArray rfl rfl HFz.out.there HFz.out.size HFz.out.one ?_)
            refine bodyPost_ret (results_cell2 rfl _ _ O _ _ _ _ rfl HFz.out.stored Try.underlying50 rfl HFz.out.size (.int .i64 Ec) rfl) rfl ?_
            exact HPoO.out _ _ ⟨HFz.out.bel, .inl ⟨HEn.out, by rw [HE.out]; rfl⟩⟩
end Go.Proofs.Ytmcmapgllaopmaa.Cd
end

section
namespace Go.Proofs.Ytmcmapgllaopmaa.Cd
open Go.RowKit
set_option linter.unusedVariables false
theorem fl_ne {f e : Int} (he : e ≠ 0) : fl f e ≠ 0 := by
  unfold fl
  split
  · exact he
  · assumption
theorem fl_zz {f e : Int} (h : fl f e = 0) : f = 0 ∧ e = 0 := by
  unfold fl at h
  split at h
  · rename_i h2; exact ⟨h2, h⟩
  · rename_i h2; exact absurd h h2
section
variable {l : List Int} {L : Nat}
def eP1 (l : List Int) (L a : Nat) : Pl := atN l L (0, a) 1
def eP2 (l : List Int) (L a : Nat) : Pl := atN l L (eP1 l L a) 1
def eP3 (l : List Int) (L a : Nat) : Pl := atN l L (eP2 l L a) (geN l L (eP1 l L a) 1)
def eP4 (l : List Int) (L a : Nat) : Pl := atN l L (eP3 l L a) 32
theorem rd1_p (l : List Int) (L a : Nat) : rd1 l a L = ⟨(eP4 l L a).2, (eP4 l L a).1, nv (geL l L (0, a) 1), sb (geL l L (eP2 l L a) (geN l L (eP1 l L a) 1)), geI l L (eP3 l L a)⟩ := rfl
theorem eB1_form {x : Fr.Ent} (h1 : 1 ≤ x.kind) (h2 : x.kind ≤ 4) (hn : x.name.size ≤ 40) : eB1 x = be 1 x.kind ++ (be 1 (x.name.size : Int) ++ sv x.name) ++ x.id := by
  rw [be_one _ (by omega) (by omega), be_one _ (by omega) (by omega)]
  simp [eB1]
theorem sd_ent (hL : l.length = L) {a : Nat} {x : Fr.Ent} (h : Sd l a (eB1 x)) (h1 : 1 ≤ x.kind) (h2 : x.kind ≤ 4) (hn : x.name.size ≤ 40) (hi : x.id.length = 32) : rd1 l a L = ⟨a + (eB1 x).length, 0, x.kind, x.name, x.id⟩ := by
  have hlen : (eB1 x).length = 2 + x.name.size + 32 := by simp [eB1, sv_len, hi]; omega
  rw [eB1_form h1 h2 hn] at h
  have k1 := h.left.left
  have k2 := h.left.right.left
  have k3 := h.left.right.right
  have k4 := h.right
  simp only [List.length_append, be_length, sv_len] at k2 k3 k4
  obtain ⟨a1, a2⟩ := sd_num k1 hL (by omega) (by omega)
  obtain ⟨b1, b2⟩ := sd_num k2 hL (by omega) (by omega)
  have p1 : eP1 l L a = (0, a + 1) := a2
  have p2 : eP2 l L a = (0, a + 1 + 1) := by unfold eP2; rw [p1]; exact b2
  have b1' : geN l L (0, a + 1) 1 = x.name.size := by omega
  obtain ⟨c1, c2⟩ := sd_at k3 hL x.name.size (sv_len _)
  have p3 : eP3 l L a = (0, a + 1 + 1 + x.name.size) := by unfold eP3; rw [p2, p1, b1']; exact c1
  obtain ⟨d1, d2⟩ := sd_id (k4.mv (by omega : a + 1 + 1 + x.name.size = _)) hL hi
  have p4 : eP4 l L a = (0, a + 1 + 1 + x.name.size + 32) := by unfold eP4; rw [p3]; exact d2
  obtain ⟨e1, e2⟩ := sd_at k1 hL 1 (be_length 1 _)
  rw [rd1_p, p4, p3, p2, p1, e2, b1', c2, d1, sb_sv, nv_be 1 _ (by omega) (by omega), hlen]
  congr 1
  show a + 1 + 1 + x.name.size + 32 = _
  omega
theorem NmOk.size {s : ByteArray} (h : NmOk s) : s.size ≤ 40 := by have := h.2.1; omega
theorem lastN_snoc (es : List Fr.Ent) (x : Fr.Ent) : lastN (es ++ [x]) = some x.name := by simp [lastN]
theorem sd_ents (hL : l.length = L) : ∀ (es : List Fr.Ent) (a n : Nat) (acc : List Fr.Ent), Sd l a (eB es) → a + (eB es).length = L → eF es (lastN acc) = 0 → acc.length + es.length ≤ 512 → es.length < n → (∀ x ∈ es, x.id.length = 32) → pT l L n a acc = (0, acc ++ es)
  | [], a, 0, acc, _, _, _, _, hn, _ => absurd hn (by simp)
  | [], a, n + 1, acc, _, ha, _, _, _, _ => by
    have : a = L := by simpa [eB] using ha
    rw [pT, if_pos this, List.append_nil]
  | x :: es, a, 0, acc, _, _, _, _, hn, _ => absurd hn (by simp)
  | x :: es, a, n + 1, acc, h, ha, hF, hc, hn, hi => by
    have e : eB (x :: es) = eB1 x ++ eB es := rfl
    rw [e] at h ha
    have hix := hi x (List.mem_cons_self ..)
    have hlen : (eB1 x).length = 2 + x.name.size + 32 := by simp [eB1, sv_len, hix]; omega
    rw [List.length_append] at ha
    rw [eF] at hF
    have hce : ce x.kind x.name x.id (lastN acc) = 0 := by
      split at hF
      · assumption
      · exact hF
    rw [if_pos hce] at hF
    obtain ⟨h1, h2, h3⟩ := ce_zero hce
    have hr := sd_ent hL h.left h1 h2 h3.size hix
    have hcn : ¬ acc.length = 512 := by simp at hc; omega
    have hrd : rdF l a L acc.length (lastN acc) = 0 := by
      unfold rdF
      rw [hr, if_neg hcn]
      show fl 0 (ce x.kind x.name x.id (lastN acc)) = 0
      rw [hce]; rfl
    rw [pT, if_neg (by omega), if_pos hrd, hr]
    have hx : (⟨x.name, x.kind, x.id⟩ : Fr.Ent) = x := rfl
    show pT l L n (a + (eB1 x).length) (acc ++ [⟨x.name, x.kind, x.id⟩]) = _
    rw [hx, sd_ents hL es _ n (acc ++ [x]) h.right (by omega) (by rw [lastN_snoc]; exact hF) (by simp at hc ⊢; omega) (by simp at hn; omega) (fun y hy => hi y (List.mem_cons_of_mem _ hy)), List.append_assoc]
    rfl
theorem eB_ge : ∀ es : List Fr.Ent, es.length ≤ (eB es).length
  | [] => Nat.le_refl _
  | x :: es => by
    have e : eB (x :: es) = eB1 x ++ eB es := rfl
    have := eB_ge es
    rw [e, List.length_append, List.length_cons]
    simp only [eB1, List.length_cons]
    omega
/-- A TREE ENCODED, THEN PARSED -/
theorem tree_back {es : List Fr.Ent} (h0 : eE es = 0) (hi : ∀ x ∈ es, x.id.length = 32) : pT (eB es) (eB es).length ((eB es).length + 1) 0 [] = (0, es) := by
  unfold eE at h0
  split at h0
  · exact absurd h0 (by decide)
  · have := sd_ents rfl es 0 ((eB es).length + 1) [] (Sd.whole _) (by omega) h0 (by simp; omega) (by have := eB_ge es; omega) hi
    simpa using this
variable (hL : l.length = L) (hb : ∀ i, i < L → 0 ≤ l.getD i 0 ∧ l.getD i 0 ≤ 255)
include hL hb
theorem ok_ents : ∀ (n a : Nat) (acc : List Fr.Ent), (pT l L n a acc).1 = 0 → a ≤ L → L - a < n → acc.length ≤ 512 → ∃ es, pT l L n a acc = (0, acc ++ es) ∧ Sd l a (eB es) ∧ a + (eB es).length = L ∧ eF es (lastN acc) = 0 ∧ (acc ++ es).length ≤ 512
  | 0, a, acc, _, _, hn, _ => absurd hn (by omega)
  | n + 1, a, acc, h, ha, hn, hc => by
    rw [pT] at h ⊢
    by_cases he : a = L
    · rw [if_pos he]
      exact ⟨[], by rw [List.append_nil], Sd.nil (by omega), by simpa [eB] using he, rfl, by rw [List.append_nil]; exact hc⟩
    · rw [if_neg he] at h ⊢
      by_cases hr : rdF l a L acc.length (lastN acc) = 0
      rotate_left
      · rw [if_neg hr] at h; exact absurd h hr
      rw [if_pos hr] at h ⊢
      obtain ⟨nm, hnm⟩ : ∃ nm, nm = (rd1 l a L).nm := ⟨_, rfl⟩
      unfold rdF at hr
      have hcn : ¬ acc.length = 512 := by
        intro hh
        rw [if_pos hh] at hr
        exact fl_ne (by decide) (fl_zz hr).1
      rw [if_neg hcn] at hr
      have hf : (rd1 l a L).f = 0 := (fl_zz hr).1
      rw [hf] at hr
      have hce : ce (rd1 l a L).k (rd1 l a L).nm (rd1 l a L).id (lastN acc) = 0 := hr
      obtain ⟨k1, k2, k3⟩ := ce_zero hce
      have hz4 : (eP4 l L a).1 = 0 := hf
      have hz3 : (eP3 l L a).1 = 0 := atN_z hz4
      have hz2 : (eP2 l L a).1 = 0 := atN_z hz3
      have hz1 : (eP1 l L a).1 = 0 := atN_z hz2
      obtain ⟨-, a2, a3, a4⟩ := ok_num (p := (0, a)) (n := 1) hz1 hL ha hb (by decide)
      have p1 : eP1 l L a = (0, a + 1) := a2
      have a4' : a + 1 ≤ L := a4
      obtain ⟨-, b2, b3, b4⟩ := ok_num (p := eP1 l L a) (n := 1) hz2 hL (by rw [p1]; exact a4') hb (by decide)
      rw [p1] at b2 b3 b4
      have p2 : eP2 l L a = (0, a + 1 + 1) := by unfold eP2; rw [p1]; exact b2
      have b4' : a + 1 + 1 ≤ L := b4
      obtain ⟨-, c2, c3, c4⟩ := ok_at (p := eP2 l L a) (n := geN l L (eP1 l L a) 1) hz3 hL (by rw [p2]; exact b4')
      rw [p2, p1] at c2 c3 c4
      have p3 : eP3 l L a = (0, a + 1 + 1 + geN l L (0, a + 1) 1) := by unfold eP3; rw [p2, p1]; exact c2
      have hlc := c4.le
      rw [c3] at hlc
      have hlc' : a + 1 + 1 + geN l L (0, a + 1) 1 ≤ l.length := hlc
      obtain ⟨-, d2, d3, d4⟩ := ok_id (p := eP3 l L a) hz4 hL (by rw [p3]; show a + 1 + 1 + geN l L (0, a + 1) 1 ≤ L; omega)
      have q3 : (eP3 l L a).2 = a + 1 + 1 + geN l L (0, a + 1) 1 := by rw [p3]
      rw [q3] at d2 d3 d4
      have p4 : eP4 l L a = (0, a + 1 + 1 + geN l L (0, a + 1) 1 + 32) := d2
      have hr1 := rd1_p l L a
      rw [p4, p2, p1] at hr1
      have ek : (rd1 l a L).k = ((geN l L (0, a) 1 : Nat) : Int) := by rw [hr1]; exact geN_eq (p := (0, a)) (by decide) hL hb
      have enm : (rd1 l a L).nm = sb (geL l L (0, a + 1 + 1) (geN l L (0, a + 1) 1)) := by rw [hr1]
      have eid : (rd1 l a L).id = geI l L (eP3 l L a) := by rw [hr1]
      have epos : (rd1 l a L).pos = a + 1 + 1 + geN l L (0, a + 1) 1 + 32 := by rw [hr1]
      obtain ⟨es, f1, f2, f3, f4, f5⟩ := ok_ents n (rd1 l a L).pos (acc ++ [⟨(rd1 l a L).nm, (rd1 l a L).k, (rd1 l a L).id⟩]) h (by rw [epos]; exact d4) (by rw [epos]; omega) (by simp; omega)
      rw [lastN_snoc] at f4
      rw [epos] at f2 f3
      have hes : (sb (geL l L (0, a + 1 + 1) (geN l L (0, a + 1) 1))).size = geN l L (0, a + 1) 1 := by rw [sb_size, c3]
      have hsz : (rd1 l a L).nm.size = geN l L (0, a + 1) 1 := by rw [enm, hes]
      have hn40 := k3.size
      have hE : eB1 ⟨(rd1 l a L).nm, (rd1 l a L).k, (rd1 l a L).id⟩ = be 1 (rd1 l a L).k ++ (be 1 ((rd1 l a L).nm.size : Int) ++ sv (rd1 l a L).nm) ++ (rd1 l a L).id := eB1_form (x := ⟨(rd1 l a L).nm, (rd1 l a L).k, (rd1 l a L).id⟩) k1 k2 hn40
      have hid : (rd1 l a L).id.length = 32 := by rw [eid]; exact geI_len l L _
      have hlen : (eB1 ⟨(rd1 l a L).nm, (rd1 l a L).k, (rd1 l a L).id⟩).length = 1 + (1 + geN l L (0, a + 1) 1) + 32 := by
        rw [hE]; simp only [List.length_append, be_length, sv_len, hid, hsz]
      have e : eB (⟨(rd1 l a L).nm, (rd1 l a L).k, (rd1 l a L).id⟩ :: es) = eB1 ⟨(rd1 l a L).nm, (rd1 l a L).k, (rd1 l a L).id⟩ ++ eB es := rfl
      have s1 : Sd l a (be 1 (rd1 l a L).k) := by rw [ek]; exact a3
      have s2 : Sd l (a + 1) (be 1 ((rd1 l a L).nm.size : Int)) := by rw [hsz]; exact b3
      have s3 : Sd l (a + 1 + 1) (sv (rd1 l a L).nm) := by rw [enm, sv_sb _ (geL_byte hL hb _ _)]; exact c4
      have s4 : Sd l (a + 1 + 1 + geN l L (0, a + 1) 1) (rd1 l a L).id := by rw [eid]; exact d3
      have hS : Sd l a (eB1 ⟨(rd1 l a L).nm, (rd1 l a L).k, (rd1 l a L).id⟩) := by
        rw [hE]
        refine Sd.join (Sd.join s1 ((Sd.join s2 (s3.mv ?_)).mv ?_)) (s4.mv ?_) <;> simp only [List.length_append, be_length, sv_len, hsz]
        omega
      refine ⟨⟨(rd1 l a L).nm, (rd1 l a L).k, (rd1 l a L).id⟩ :: es, ?_, ?_, ?_, ?_, ?_⟩
      · rw [f1, List.append_assoc]; rfl
      · rw [e]; exact hS.join (f2.mv (by rw [hlen]; omega))
      · rw [e, List.length_append, hlen]; omega
      · rw [eF, if_pos hce]; exact f4
      · rw [List.append_assoc] at f5; exact f5
/-- A TREE PARSED, THEN ENCODED -/
theorem tree_again (h0 : (pT l L (L + 1) 0 []).1 = 0) : eE (pT l L (L + 1) 0 []).2 = 0 ∧ eB (pT l L (L + 1) 0 []).2 = l := by
  obtain ⟨es, h1, h2, h3, h4, h5⟩ := ok_ents hL hb (L + 1) 0 [] h0 (Nat.zero_le _) (by omega) (by simp)
  rw [List.nil_append] at h1 h5
  rw [h1]
  refine ⟨?_, h2.all (by omega)⟩
  show (if 512 < es.length then (4 : Int) else eF es none) = 0
  rw [if_neg (by omega)]
  exact h4
end
theorem or_hi (y c : Int) (h0 : 0 ≤ y) (h1 : y < 18446744073709551616) (hm : y % 256 = 0) (h2 : 0 ≤ c) (h3 : c ≤ 255) : bits .or .i64 (wrap64 y) c = wrap64 (y + c) := by
  obtain ⟨b, rfl⟩ : ∃ b : Nat, c = b := ⟨c.toNat, by omega⟩
  obtain ⟨a, ha⟩ : ∃ a : Nat, y = a * 256 := ⟨(y / 256).toNat, by omega⟩
  have e1 : (BitVec.ofInt 64 (wrap64 y)).toNat = a * 256 := by
    rw [BitVec.toNat_ofInt]
    have : wrap64 y % ((2 ^ 64 : Nat) : Int) = y := by
      have e0 : ((2 ^ 64 : Nat) : Int) = 18446744073709551616 := by decide
      rw [e0]
      unfold wrap64
      omega
    rw [this]; omega
  have e2 : (BitVec.ofInt 64 (b : Int)).toNat = b := by
    rw [BitVec.ofInt_natCast, BitVec.toNat_ofNat]; exact Nat.mod_eq_of_lt (by omega)
  show IntKind.i64.wrap ((BitVec.ofInt 64 (wrap64 y) ||| BitVec.ofInt 64 (b : Int)).toNat : Int) = _
  rw [BitVec.toNat_or, e1, e2]
  have h := Nat.shiftLeft_add_eq_or_of_lt (show b < 2 ^ 8 by omega) a
  rw [Nat.shiftLeft_eq] at h
  have h2 : a * 256 ||| b = a * 256 + b := h.symm
  rw [h2, IntWalk.i64_left]
  congr 1
  omega
theorem tv_wrap : ∀ (k : Nat) (l : List Int), k ≤ 8 → l.length ≤ k → (∀ i, i < l.length → 0 ≤ l.getD i 0 ∧ l.getD i 0 ≤ 255) → tv l = wrap64 (nv l) := by
  intro k
  induction k with
  | zero =>
    intro l _ hl _
    obtain rfl : l = [] := List.eq_nil_of_length_eq_zero (by omega)
    show (0 : Int) = wrap64 0
    unfold wrap64
    omega
  | succ k ih =>
    intro l hk hl hb
    rcases List.eq_nil_or_concat l with rfl | ⟨m, c, rfl⟩
    · show (0 : Int) = wrap64 0
      unfold wrap64
      omega
    · rw [List.concat_eq_append] at *
      have hbm : ∀ i, i < m.length → 0 ≤ m.getD i 0 ∧ m.getD i 0 ≤ 255 := fun i hi => by
        have := hb i (by simp; omega)
        simpa [List.getD, List.getElem?_append_left hi] using this
      have h1 := ih m (by omega) (by simp at hl; omega) hbm
      have h2 := hb m.length (by simp)
      have h3 : (m ++ [c]).getD m.length 0 = c := by simp [List.getD]
      rw [h3] at h2
      have h4 := nv_bound 7 m (by simp at hl; omega) hbm
      have h5 : (256 : Int) ^ 7 = 72057594037927936 := by decide
      rw [h5] at h4
      rw [tv_snoc, nv_snoc, h1]
      have hw : wrap64 (nv m) = nv m := IntWalk.wrap64_in _ (by omega)
      rw [hw]
      exact or_hi _ _ (by omega) (by omega) (by omega) h2.1 h2.2
end Go.Proofs.Ytmcmapgllaopmaa.Cd
end

section
namespace Go.Proofs.Ytmcmapgllaopmaa.Cd
open Go.RowKit
set_option linter.unusedVariables false
/-- an object's bytes -/
def obB (k : Int) (l : List Int) (L : Nat) : List Int := ckL k l L :: be 4 (L : Int) ++ l
theorem byte_getD {z : List Int} (h : ∀ x ∈ z, 0 ≤ x ∧ x ≤ 255) (i : Nat) (hi : i < z.length) : 0 ≤ z.getD i 0 ∧ z.getD i 0 ≤ 255 := by
  rw [List.getD_eq_getElem?_getD, List.getElem?_eq_getElem hi]
  exact h _ (List.getElem_mem hi)
end Go.Proofs.Ytmcmapgllaopmaa.Cd
end

section
namespace Go.Proofs.Ytmcmapgllaopmaa.Cd
open Go.RowKit
set_option linter.unusedVariables false
section
variable {l : List Int} {L : Nat}
theorem sd_pars (hL : l.length = L) : ∀ (ids : List (List Int)) (a : Nat) (acc : List (List Int)), Sd l a ids.flatten → pwF acc ids = 0 → (∀ x ∈ ids, x.length = 32) → pL l L ids.length 0 a acc = (0, a + 32 * ids.length, acc ++ ids)
  | [], a, acc, _, _, _ => by simp [pL]
  | x :: ids, a, acc, h, hF, hi => by
    have h' : Sd l a (x ++ ids.flatten) := by simpa using h
    have hx := hi x (List.mem_cons_self ..)
    obtain ⟨e1, e2⟩ := sd_id h'.left hL hx
    have f1 : tkF 0 a L 32 = 0 := congrArg Prod.fst e2
    have f2 : tkA 0 a L 32 = a + 32 := congrArg Prod.snd e2
    have f3 : idv (tkL 0 l a L 32) = x := e1
    rw [pwF] at hF
    have hc : cp x acc = 0 := by
      split at hF
      · assumption
      · exact hF
    rw [if_pos hc] at hF
    have hr := h'.right
    rw [hx] at hr
    rw [List.length_cons, pL, if_pos rfl, f1, f2, f3, hc]
    show pL l L ids.length 0 (a + 32) (acc ++ [x]) = _
    rw [sd_pars hL ids _ _ hr hF (fun y hy => hi y (List.mem_cons_of_mem _ hy)), List.append_assoc, show a + 32 + 32 * ids.length = a + 32 * (ids.length + 1) by omega]
    rfl
theorem flat32 : ∀ (ids : List (List Int)), (∀ x ∈ ids, x.length = 32) → ids.flatten.length = 32 * ids.length
  | [], _ => rfl
  | x :: ids, h => by
    rw [List.flatten_cons, List.length_append, flat32 ids (fun y hy => h y (List.mem_cons_of_mem _ hy)), h x (List.mem_cons_self ..), List.length_cons]
    omega
theorem cmB_form (tr : List Int) (ids : List (List Int)) (au : ByteArray) (tm : Int) (ms : ByteArray) (h8 : ids.length ≤ 8) : cmB tr ids au tm ms = tr ++ (be 1 (ids.length : Int) ++ (ids.flatten ++ ((be 2 (au.size : Int) ++ sv au) ++ (be 8 (IntKind.u64.wrap tm) ++ (be 2 (ms.size : Int) ++ sv ms))))) := by
  rw [be_one _ (by omega) (by omega)]
  simp [cmB]
theorem u64_wrap (n : Int) : IntKind.u64.wrap n = n % 18446744073709551616 := by rw [IntKind.wrap_u64]
theorem wrap_u (tm : Int) (h0 : -9223372036854775808 ≤ tm) (h1 : tm ≤ 9223372036854775807) : wrap64 (IntKind.u64.wrap tm) = tm := by
  rw [u64_wrap]; unfold wrap64; omega
/-- A COMMIT ENCODED, THEN PARSED -/
theorem commit_back {tr : List Int} {ids : List (List Int)} {au ms : ByteArray} {tm : Int} (h0 : wE tr ids au ms = 0) (ht : tr.length = 32) (hi : ∀ x ∈ ids, x.length = 32) (t0 : -9223372036854775808 ≤ tm) (t1 : tm ≤ 9223372036854775807) (hl : l = cmB tr ids au tm ms) (hL : l.length = L) :
    cF7 0 l 0 L = 0 ∧ cT 0 l 0 L = tr ∧ (cQ 0 l 0 L).2.2 = ids ∧ cAu 0 l 0 L = au ∧ tv (cB 0 l 0 L) = tm ∧ cMs 0 l 0 L = ms := by
  obtain ⟨g1, g2, g3⟩ := wE_zero h0
  unfold wE at h0
  have htr : tr ≠ List.replicate 32 0 := by
    intro e
    rw [if_pos e] at h0
    exact absurd h0 (by decide)
  rw [if_neg htr, if_neg (by omega)] at h0
  have hpw : pwF [] ids = 0 := by
    split at h0
    · assumption
    · exact h0
  have hw := Sd.whole l
  have e := cmB_form tr ids au tm ms g1
  have hw2 : Sd l 0 (tr ++ (be 1 (ids.length : Int) ++ (ids.flatten ++ ((be 2 (au.size : Int) ++ sv au) ++ (be 8 (IntKind.u64.wrap tm) ++ (be 2 (ms.size : Int) ++ sv ms)))))) := by rw [← e, ← hl]; exact hw
  have hfl := flat32 ids hi
  have hlen : L = 32 + (1 + (32 * ids.length + ((2 + au.size) + (8 + (2 + ms.size))))) := by
    rw [← hL, hl, e]; simp only [List.length_append, be_length, sv_len, ht, hfl]
  have k0 := hw2.left
  have k1 := hw2.right.left
  have k2 := hw2.right.right.left
  have k3 := hw2.right.right.right.left
  have k4 := hw2.right.right.right.right.left
  have k5 := hw2.right.right.right.right.right
  simp only [List.length_append, be_length, sv_len, ht, hfl] at k1 k2 k3 k4 k5
  obtain ⟨a1, a2⟩ := sd_id k0 hL ht
  have eT : cT 0 l 0 L = tr := a1
  have f0 : tkF 0 0 L 32 = 0 := congrArg Prod.fst a2
  have p0 : tkA 0 0 L 32 = 0 + 32 := congrArg Prod.snd a2
  have eF2 : cF2 0 l 0 L = 0 := by unfold cF2; rw [eT, if_neg htr, f0]
  obtain ⟨b1, b2⟩ := sd_num k1 hL (by omega) (by omega)
  have eM : paM 0 l (0 + 32) L = ids.length := by
    have : paM 0 l (0 + 32) L = geN l L (0, 0 + 32) 1 := rfl
    rw [this]; omega
  have f1 : tkF 0 (0 + 32) L 1 = 0 := congrArg Prod.fst b2
  have p1 : tkA 0 (0 + 32) L 1 = 0 + 32 + 1 := congrArg Prod.snd b2
  have eQ : cQ 0 l 0 L = (0, 0 + 32 + 1 + 32 * ids.length, ids) := by
    unfold cQ pa pa2
    rw [eF2, p0, eM, if_neg (by omega), f1, p1, sd_pars hL ids _ [] k2 hpw hi, List.nil_append]
  obtain ⟨c1, c2⟩ := sd_text (most := 1000) (k3.mv (by omega : 0 + 32 + 1 + 32 * ids.length = _)) hL (by omega) (by omega)
  have eAu : cAu 0 l 0 L = au := by unfold cAu; rw [eQ]; exact c1
  have f4 : cF4 0 l 0 L = 0 := by unfold cF4; rw [eQ]; exact congrArg Prod.fst c2
  have p4 : cA4 0 l 0 L = 0 + 32 + 1 + 32 * ids.length + 2 + au.size := by unfold cA4; rw [eQ]; exact congrArg Prod.snd c2
  obtain ⟨d1, d2⟩ := sd_at (k4.mv (by omega : 0 + 32 + 1 + 32 * ids.length + 2 + au.size = _)) hL 8 (be_length 8 _)
  have eB : cB 0 l 0 L = be 8 (IntKind.u64.wrap tm) := by unfold cB; rw [f4, p4]; exact d2
  have f5 : cF5 0 l 0 L = 0 := by unfold cF5; rw [f4, p4]; exact congrArg Prod.fst d1
  have p5 : cA5 0 l 0 L = 0 + 32 + 1 + 32 * ids.length + 2 + au.size + 8 := by unfold cA5; rw [f4, p4]; exact congrArg Prod.snd d1
  obtain ⟨i1, i2⟩ := sd_text (most := 1000) (k5.mv (by omega : 0 + 32 + 1 + 32 * ids.length + 2 + au.size + 8 = _)) hL (by omega) (by omega)
  have eMs : cMs 0 l 0 L = ms := by unfold cMs; rw [f5, p5]; exact i1
  have f6 : cF6 0 l 0 L = 0 := by unfold cF6; rw [f5, p5]; exact congrArg Prod.fst i2
  have p6 : cA6 0 l 0 L = 0 + 32 + 1 + 32 * ids.length + 2 + au.size + 8 + 2 + ms.size := by unfold cA6; rw [f5, p5]; exact congrArg Prod.snd i2
  refine ⟨?_, eT, by rw [eQ], eAu, ?_, eMs⟩
  · unfold cF7 enF
    rw [f6, p6, if_pos (by omega)]
  · have hu0 : 0 ≤ IntKind.u64.wrap tm := by rw [u64_wrap]; omega
    have hu1 : IntKind.u64.wrap tm < 256 ^ 8 := by rw [u64_wrap]; have : (256 : Int) ^ 8 = 18446744073709551616 := by decide
                                                   omega
    have hbb : ∀ i, i < (be 8 (IntKind.u64.wrap tm)).length → 0 ≤ (be 8 (IntKind.u64.wrap tm)).getD i 0 ∧ (be 8 (IntKind.u64.wrap tm)).getD i 0 ≤ 255 := by
      have hm : ∀ k (x : Int), ∀ y ∈ be k x, 0 ≤ y ∧ y ≤ 255 := by
        intro k
        induction k with
        | zero => intro x y hy; cases hy
        | succ k ih =>
          intro x y hy
          rcases List.mem_cons.1 hy with rfl | hy
          · omega
          · exact ih x y hy
      intro i hi'
      exact byte_getD (hm 8 _) i hi'
    rw [eB, tv_wrap 8 _ (Nat.le_refl _) (by rw [be_length]; exact Nat.le_refl _) hbb, nv_be 8 _ hu0 hu1, wrap_u tm t0 t1]
theorem pL_z {n : Nat} {f : Int} {a : Nat} {acc : List (List Int)} (h : (pL l L n f a acc).1 = 0) : f = 0 := Decidable.byContradiction fun h0 => by rw [pL_st h0] at h; exact h0 h
variable (hL : l.length = L) (hb : ∀ i, i < L → 0 ≤ l.getD i 0 ∧ l.getD i 0 ≤ 255)
include hL
theorem ok_pars : ∀ (n : Nat) (f : Int) (a : Nat) (acc : List (List Int)), (pL l L n f a acc).1 = 0 → a ≤ L → ∃ ids, pL l L n f a acc = (0, a + 32 * ids.length, acc ++ ids) ∧ ids.length = n ∧ Sd l a ids.flatten ∧ pwF acc ids = 0 ∧ (∀ x ∈ ids, x.length = 32) ∧ a + 32 * ids.length ≤ L
  | 0, f, a, acc, h, ha => ⟨[], by
      have h0 : f = 0 := h
      show (f, a, acc) = _
      rw [h0]; simp, rfl, Sd.nil (by omega), rfl, fun x hx => absurd hx (by simp), by simpa using ha⟩
  | n + 1, f, a, acc, h, ha => by
    have h0 := pL_z h
    rw [pL, if_pos h0] at h ⊢
    subst h0
    obtain ⟨z1, z2⟩ := fl_zz (pL_z h)
    have hz : (atN l L (0, a) 32).1 = 0 := z1
    obtain ⟨-, a2, a3, a4⟩ := ok_id (p := (0, a)) hz hL ha
    have p1 : tkA 0 a L 32 = a + 32 := congrArg Prod.snd a2
    have a4' : a + 32 ≤ L := a4
    obtain ⟨ids, b1, b2, b3, b4, b5, b6⟩ := ok_pars n _ _ _ h (by rw [p1]; exact a4')
    rw [p1] at b1 b3 b6
    have hx : (idv (tkL 0 l a L 32)).length = 32 := geI_len l L (0, a)
    refine ⟨idv (tkL 0 l a L 32) :: ids, ?_, by rw [List.length_cons, b2], ?_, ?_, fun x hx' => ?_, by rw [List.length_cons]; omega⟩
    · rw [p1, b1, List.append_assoc, List.length_cons, show a + 32 + 32 * ids.length = a + 32 * (ids.length + 1) by omega]; rfl
    · rw [List.flatten_cons]
      exact Sd.join a3 (b3.mv (by rw [hx]))
    · rw [pwF, if_pos z2]; exact b4
    · rcases List.mem_cons.1 hx' with rfl | hx'
      · exact hx
      · exact b5 x hx'
include hb
set_option maxHeartbeats 2000000 in
/-- A COMMIT PARSED, THEN ENCODED -/
theorem commit_again (h0 : cF7 0 l 0 L = 0) : wE (cT 0 l 0 L) (cQ 0 l 0 L).2.2 (cAu 0 l 0 L) (cMs 0 l 0 L) = 0 ∧ cmB (cT 0 l 0 L) (cQ 0 l 0 L).2.2 (cAu 0 l 0 L) (tv (cB 0 l 0 L)) (cMs 0 l 0 L) = l := by
  have hend : cF6 0 l 0 L = 0 ∧ cA6 0 l 0 L = L := by
    unfold cF7 enF at h0
    split at h0
    · rename_i h; exact ⟨h0, h⟩
    · exact absurd (fl_zz h0).2 (by decide)
  have hz6 : (atT l L (cF5 0 l 0 L, cA5 0 l 0 L) 2 1000).1 = 0 := hend.1
  have hz5 : cF5 0 l 0 L = 0 := atT_z hz6
  have hz5' : (atN l L (cF4 0 l 0 L, cA4 0 l 0 L) 8).1 = 0 := hz5
  have hz4 : cF4 0 l 0 L = 0 := atN_z hz5'
  have hz4' : (atT l L ((cQ 0 l 0 L).1, (cQ 0 l 0 L).2.1) 2 1000).1 = 0 := hz4
  have hzQ : (cQ 0 l 0 L).1 = 0 := atT_z hz4'
  have hzQ' : (pL l L (paM (cF2 0 l 0 L) l (tkA 0 0 L 32) L) (pa2 (cF2 0 l 0 L) l (tkA 0 0 L 32) L) (tkA (cF2 0 l 0 L) (tkA 0 0 L 32) L 1) []).1 = 0 := hzQ
  have hzp := pL_z hzQ'
  have hm8 : ¬ 8 < paM (cF2 0 l 0 L) l (tkA 0 0 L 32) L := by
    intro hh
    unfold pa2 at hzp
    rw [if_pos hh] at hzp
    exact absurd (fl_zz hzp).2 (by decide)
  have hzp1 : tkF (cF2 0 l 0 L) (tkA 0 0 L 32) L 1 = 0 := by
    unfold pa2 at hzp
    rw [if_neg hm8] at hzp
    exact hzp
  have hz2 : cF2 0 l 0 L = 0 := atN_z (l := l) (L := L) (p := (cF2 0 l 0 L, tkA 0 0 L 32)) (n := 1) hzp1
  have htr : cT 0 l 0 L ≠ List.replicate 32 0 := by
    intro hh
    unfold cF2 at hz2
    rw [if_pos hh] at hz2
    exact absurd (fl_zz hz2).2 (by decide)
  have hz1 : (atN l L (0, 0) 32).1 = 0 := by
    have h := hz2
    unfold cF2 at h
    rw [if_neg htr] at h
    exact h
  obtain ⟨-, a1, a2, a3⟩ := ok_id (p := (0, 0)) hz1 hL (Nat.zero_le _)
  have p0 : tkA 0 0 L 32 = 0 + 32 := congrArg Prod.snd a1
  have a3' : 0 + 32 ≤ L := a3
  rw [hz2, p0] at hzQ' hm8 hzp1 hzp
  obtain ⟨-, b1, b2, b3⟩ := ok_num (p := (0, 0 + 32)) (n := 1) hzp1 hL a3' hb (by decide)
  have p1 : tkA 0 (0 + 32) L 1 = 0 + 32 + 1 := congrArg Prod.snd b1
  have b3' : 0 + 32 + 1 ≤ L := b3
  rw [p1] at hzQ'
  obtain ⟨ids, c1, c2, c3, c4, c5, c6⟩ := ok_pars hL _ _ _ _ hzQ' b3'
  rw [List.nil_append] at c1
  have eQ : cQ 0 l 0 L = (0, 0 + 32 + 1 + 32 * ids.length, ids) := by
    unfold cQ pa
    rw [hz2, p0, p1]; exact c1
  have eM : paM 0 l (0 + 32) L = geN l L (0, 0 + 32) 1 := rfl
  rw [eQ] at hz4'
  have c6' : 0 + 32 + 1 + 32 * ids.length ≤ L := c6
  obtain ⟨-, d1, d2, d3, d4⟩ := ok_text (p := (0, 0 + 32 + 1 + 32 * ids.length)) hz4' hL c6' hb (by decide)
  have eAu : cAu 0 l 0 L = geT l L (0, 0 + 32 + 1 + 32 * ids.length) 2 1000 := by
    show txS (cQ 0 l 0 L).1 l (cQ 0 l 0 L).2.1 L 2 1000 = _
    rw [eQ]; rfl
  rw [← eAu] at d1 d2 d3 d4
  have p4 : cA4 0 l 0 L = 0 + 32 + 1 + 32 * ids.length + 2 + (cAu 0 l 0 L).size := by
    show txA (cQ 0 l 0 L).1 l (cQ 0 l 0 L).2.1 L 2 1000 = _
    rw [eQ]; exact congrArg Prod.snd d1
  have d4' : 0 + 32 + 1 + 32 * ids.length + 2 + (cAu 0 l 0 L).size ≤ L := d4
  rw [hz4, p4] at hz5'
  obtain ⟨-, f1, f2, f3⟩ := ok_at (p := (0, 0 + 32 + 1 + 32 * ids.length + 2 + (cAu 0 l 0 L).size)) (n := 8) hz5' hL d4'
  have eB : cB 0 l 0 L = geL l L (0, 0 + 32 + 1 + 32 * ids.length + 2 + (cAu 0 l 0 L).size) 8 := by
    show tkL (cF4 0 l 0 L) l (cA4 0 l 0 L) L 8 = _
    rw [hz4, p4]; rfl
  rw [← eB] at f2 f3
  have hf3 := f3.le
  have hf3' : 0 + 32 + 1 + 32 * ids.length + 2 + (cAu 0 l 0 L).size + (cB 0 l 0 L).length ≤ l.length := hf3
  have p5 : cA5 0 l 0 L = 0 + 32 + 1 + 32 * ids.length + 2 + (cAu 0 l 0 L).size + 8 := by
    show tkA (cF4 0 l 0 L) (cA4 0 l 0 L) L 8 = _
    rw [hz4, p4]; exact congrArg Prod.snd f1
  obtain ⟨A5, hA5e⟩ : ∃ A5, A5 = 0 + 32 + 1 + 32 * ids.length + 2 + (cAu 0 l 0 L).size + 8 := ⟨_, rfl⟩
  rw [← hA5e] at p5
  rw [hz5, p5] at hz6
  have hA5 : A5 ≤ L := by omega
  obtain ⟨-, g1, g2, g3, g4⟩ := ok_text (p := (0, A5)) hz6 hL hA5 hb (by decide)
  have eMs : cMs 0 l 0 L = geT l L (0, A5) 2 1000 := by
    show txS (cF5 0 l 0 L) l (cA5 0 l 0 L) L 2 1000 = _
    rw [hz5, p5]; rfl
  rw [← eMs] at g1 g2 g3 g4
  have p6 : cA6 0 l 0 L = A5 + 2 + (cMs 0 l 0 L).size := by
    show txA (cF5 0 l 0 L) l (cA5 0 l 0 L) L 2 1000 = _
    rw [hz5, p5]
    have h := congrArg Prod.snd g1
    exact h
  have h8 : ids.length ≤ 8 := by rw [c2]; omega
  rw [eQ]
  refine ⟨?_, ?_⟩
  · unfold wE
    rw [if_neg htr, if_neg (by show ¬ 8 < ids.length; omega), if_pos c4, if_neg (by omega)]
  · show cmB (cT 0 l 0 L) ids (cAu 0 l 0 L) (tv (cB 0 l 0 L)) (cMs 0 l 0 L) = l
    have hBb : ∀ i, i < (cB 0 l 0 L).length → 0 ≤ (cB 0 l 0 L).getD i 0 ∧ (cB 0 l 0 L).getD i 0 ≤ 255 := by rw [eB]; exact geL_byte hL hb _ _
    have hnv := nv_bound 8 (cB 0 l 0 L) (by omega) hBb
    have h256 : (256 : Int) ^ 8 = 18446744073709551616 := by decide
    rw [h256] at hnv
    have hu : IntKind.u64.wrap (tv (cB 0 l 0 L)) = nv (cB 0 l 0 L) := by
      rw [tv_wrap 8 _ (Nat.le_refl _) (by omega) hBb, u64_wrap]
      unfold wrap64
      omega
    have hbe : be 8 (IntKind.u64.wrap (tv (cB 0 l 0 L))) = cB 0 l 0 L := by
      rw [hu]
      have := be_nv (cB 0 l 0 L) hBb
      rw [f2] at this
      exact this
    have hL6 := hend.2
    rw [p6] at hL6
    rw [cmB_form _ _ _ _ _ h8, hbe]
    have hT : (cT 0 l 0 L).length = 32 := geI_len l L (0, 0)
    have s1 : Sd l (0 + 32) (be 1 (ids.length : Int)) := by rw [c2, eM]; exact b2
    have hfl := flat32 ids c5
    refine Sd.all (Sd.join a2 (Sd.join (s1.mv ?_) (Sd.join (c3.mv ?_) (Sd.join (d2.mv ?_) (Sd.join (f3.mv ?_) (g2.mv ?_)))))) ?_
    all_goals (try simp only [List.length_append, be_length, sv_len, hfl, f2, hT])
    all_goals (try omega)
end
/-- AN OBJECT PARSED, THEN ENCODED -/
theorem obj_again {l : List Int} {L : Nat} (hL : l.length = L) (hb : ∀ i, i < L → 0 ≤ l.getD i 0 ∧ l.getD i 0 ≤ 255) (h0 : poE l L = 0) : ckE (poK (l.getD 0 0)) (l.drop 5) (L - 5) = 0 ∧ obB (poK (l.getD 0 0)) (l.drop 5) (L - 5) = l := by
  unfold poE at h0
  by_cases h5 : L < 5
  · rw [if_pos h5] at h0; exact absurd h0 (by decide)
  rw [if_neg h5] at h0
  by_cases hk : poK (l.getD 0 0) = 0
  · rw [if_pos hk] at h0; exact absurd h0 (by decide)
  rw [if_neg hk] at h0
  by_cases h1 : ((L - 5 : Nat) : Int) < nv ((l.drop 1).take 4)
  · rw [if_pos h1] at h0; exact absurd h0 (by decide)
  rw [if_neg h1] at h0
  by_cases h2 : nv ((l.drop 1).take 4) < ((L - 5 : Nat) : Int)
  · rw [if_pos h2] at h0; exact absurd h0 (by decide)
  rw [if_neg h2] at h0
  refine ⟨h0, ?_⟩
  have hn : nv ((l.drop 1).take 4) = ((L - 5 : Nat) : Int) := by omega
  have ht4 : ((l.drop 1).take 4).length = 4 := by rw [List.length_take, List.length_drop]; omega
  have hb4 : ∀ i, i < ((l.drop 1).take 4).length → 0 ≤ ((l.drop 1).take 4).getD i 0 ∧ ((l.drop 1).take 4).getD i 0 ≤ 255 := fun i hi => by
    rw [ht4] at hi
    rw [take_getD _ _ _ hi]
    have := hb (1 + i) (by omega)
    simpa [List.getD, Nat.add_comm] using this
  have hbe : be 4 ((L - 5 : Nat) : Int) = (l.drop 1).take 4 := by
    have := be_nv _ hb4
    rw [ht4, hn] at this
    exact this
  have hck : ckL (poK (l.getD 0 0)) (l.drop 5) (L - 5) = l.getD 0 0 := by
    unfold poK at hk h0 ⊢
    unfold ckL
    unfold ckE at h0
    by_cases k1 : l.getD 0 0 = 98
    · rw [if_pos k1] at h0 ⊢
      rw [if_pos rfl] at h0 ⊢
      by_cases k6 : 65536 < L - 5
      · rw [if_pos k6] at h0; exact absurd h0 (by decide)
      · rw [if_neg k6]; exact k1.symm
    · rw [if_neg k1] at hk ⊢
      by_cases k2 : l.getD 0 0 = 116
      · rw [if_pos k2, if_neg (by decide), if_pos rfl]; exact k2.symm
      · rw [if_neg k2] at hk ⊢
        by_cases k3 : l.getD 0 0 = 99
        · rw [if_pos k3, if_neg (by decide), if_neg (by decide), if_pos rfl]; exact k3.symm
        · rw [if_neg k3] at hk; exact absurd rfl hk
  unfold obB
  rw [hck, hbe]
  cases l with
  | nil => simp at hL; omega
  | cons c l =>
    have e : (c :: l).getD 0 0 = c := rfl
    rw [e]
    show c :: (((c :: l).drop 1).take 4 ++ (c :: l).drop 5) = c :: l
    rw [List.drop_succ_cons, List.drop_zero, List.drop_succ_cons, List.take_append_drop]
end Go.Proofs.Ytmcmapgllaopmaa.Cd
end

section
namespace Go.Proofs.Ytmcmapgllaopmaa.Cd
open Go.RowKit
set_option linter.unusedVariables false
set_option maxRecDepth 100000 in
set_option maxHeartbeats 1000000 in
theorem eqI_same (A : Option Addr) (n C : Nat) (A' : Option Addr) (C' : Nat) (ids : List (List Int)) (w : World) (h : RdIds w A n C ids) (h' : RdIds w A' n C' ids) :
    Calls Try.prog 82 #[.slice A n C, .slice A' n C'] w fun e w' => e = .returned (.bool true) ∧ Below w.heap.size w w' := by
  have HR1 := Lib.hid h
  have HR2 := Lib.hid h'
  have hc1 := h.cap
  have hm1 := h.max
  have hc2 := h'.cap
  have hm2 := h'.max
  have hbg := h.big
  have HL1 := Lib.hid h.len
  have HB0 := Lib.hid (Below.refl w.heap.size w)
  clear h h'
  have hd : ((n : Int) != (n : Int)) = false := by simp
  go_enter Try.func82, Try.ntmps82
  go_wp2_with fail
  go_loopw [13] (fun s wr => ∃ k : Nat, s = .int .i64 k ∧ k ≤ n ∧ Hid (Below w.heap.size w wr)) (fun s _ => n - (intOf s).toNat)
  case atStart => exact ⟨0, rfl, Nat.zero_le _, HB0⟩
  case round =>
    clear HB0
    obtain ⟨k, rfl, hk, HB⟩ := hrel
    by_cases hlt : k < n
    · obtain ⟨g, o, rfl, hg, hcc⟩ := (HR1.out.below HB.out).cell (by omega)
      obtain ⟨g2, o2, rfl, hg2, hcc2⟩ := (HR2.out.below HB.out).cell (by omega)
      have hpl := HR1.out.ids _ (getD_mem (k := k) (by have := HL1.out; omega))
      have hx1 := hcc k hlt
      have hx2 := hcc2 k hlt
      have heq := fun W => ids_eq (ids.getD k []) (ids.getD k []) hpl hpl W
      rw [decide_eq_true rfl] at heq
      have hS1 : Hid ((Try.prog.info? 37).map (·.size) = some (bv (ids.getD k [])).length) := Lib.hid (by rw [bv_len, hpl]; kernel_rfl)
      generalize bv (ids.getD k []) = EL at *
      have HX1 := Lib.hid hx1
      have HX2 := Lib.hid hx2
      have hk0 : (0 : Int) ≤ (k : Int) := by omega
      have hk1 : (k : Int) < (n : Int) := by omega
      have hkn : k < n := hlt
      have HBd := Lib.hid HB.out.drew
      clear hx1 hx2 hcc hcc2 hpl HB hg hg2
      go_wp2_with fail
      refine wp_region_noPanic ?_
      refine wp_region_held_drew (S := (fun wS => wS.rangeAt g (o + k * 32) EL ∧ wS.rangeAt g2 (o2 + k * 32) EL)) (by kernel_rfl) ?_ (fun hHeld => ?_)
      · ((try dsimp only); exact ⟨HX1.out, HX2.out⟩)
      refine wpAnyH_take (i := 0) (oi := { dst := some 16, op := Op.move (Operand.tmp 0), type := 38, pos := "slices.go:25", after := #[], guard := none }) (v := ?_) rfl (by kernel_rfl) (by kernel_rfl) (by kernel_rfl) (fun _ _ _ h => h) (Or.inl ⟨by rfl, ?_⟩) (by assumption) ?_
      rotate_left 1
      · ((intro w hSw; (try dsimp only at hSw); go_simp) <;> with_reducible rfl)
      (try simp only [Act.put, List.setIfInBounds_toArray, List.set_cons_zero, List.set_cons_succ])
      refine wpAnyH_take (i := 1) (oi := { dst := some 17, op := Op.move (Operand.tmp 5), type := 3, pos := "slices.go:25", after := #[], guard := none }) (v := ?_) rfl (by kernel_rfl) (by kernel_rfl) (by kernel_rfl) (fun _ _ _ h => h) (Or.inl ⟨by rfl, ?_⟩) (by assumption) ?_
      rotate_left 1
      · ((intro w hSw; (try dsimp only at hSw); go_simp) <;> with_reducible rfl)
      (try simp only [Act.put, List.setIfInBounds_toArray, List.set_cons_zero, List.set_cons_succ])
      refine wpAnyH_take (i := 2) (oi := { dst := some 18, op := Op.indexAddr 38 (Operand.tmp 16) (Operand.tmp 17), type := 0, pos := "slices.go:25", after := #[{ on := 0, ground := Ground.data }, { on := 1, ground := Ground.data }], guard := none }) (v := ?_) rfl (by kernel_rfl) (by kernel_rfl) (by kernel_rfl) (fun _ _ _ h => h) (Or.inl ⟨by rfl, ?_⟩) (by assumption) ?_
      rotate_left 1
      · ((intro w hSw; (try dsimp only at hSw); go_simp) <;> with_reducible rfl)
      (try simp only [Act.put, List.setIfInBounds_toArray, List.set_cons_zero, List.set_cons_succ])
      refine' wpAnyH_take (i := 3) (oi := { dst := some 19, op := Op.load 37 (Operand.tmp 18), type := 37, pos := "slices.go:25", after := #[{ on := 2, ground := Ground.data }], guard := none }) (v := _) rfl (by kernel_rfl) (by kernel_rfl) (by kernel_rfl) (fun _ _ _ h => h) (yieldsIf_load_mid (by rfl) _ _ rfl _ _ rfl EL _ (fun w hSw => hSw.1) Try.underlying37 rfl hS1.out) (by assumption) ?_
      (try simp only [Act.put, List.setIfInBounds_toArray, List.set_cons_zero, List.set_cons_succ])
      refine wpAnyH_take (i := 4) (oi := { dst := some 20, op := Op.move (Operand.tmp 1), type := 38, pos := "slices.go:25", after := #[], guard := none }) (v := ?_) rfl (by kernel_rfl) (by kernel_rfl) (by kernel_rfl) (fun _ _ _ h => h) (Or.inl ⟨by rfl, ?_⟩) (by assumption) ?_
      rotate_left 1
      · ((intro w hSw; (try dsimp only at hSw); go_simp) <;> with_reducible rfl)
      (try simp only [Act.put, List.setIfInBounds_toArray, List.set_cons_zero, List.set_cons_succ])
      refine wpAnyH_take (i := 5) (oi := { dst := some 21, op := Op.move (Operand.tmp 5), type := 3, pos := "slices.go:25", after := #[], guard := none }) (v := ?_) rfl (by kernel_rfl) (by kernel_rfl) (by kernel_rfl) (fun _ _ _ h => h) (Or.inl ⟨by rfl, ?_⟩) (by assumption) ?_
      rotate_left 1
      · ((intro w hSw; (try dsimp only at hSw); go_simp) <;> with_reducible rfl)
      (try simp only [Act.put, List.setIfInBounds_toArray, List.set_cons_zero, List.set_cons_succ])
      refine wpAnyH_take (i := 6) (oi := { dst := some 22, op := Op.indexAddr 38 (Operand.tmp 20) (Operand.tmp 21), type := 0, pos := "slices.go:25", after := #[{ on := 4, ground := Ground.data }, { on := 5, ground := Ground.data }], guard := none }) (v := ?_) rfl (by kernel_rfl) (by kernel_rfl) (by kernel_rfl) (fun _ _ _ h => h) (Or.inl ⟨by rfl, ?_⟩) (by assumption) ?_
      rotate_left 1
      · ((intro w hSw; (try dsimp only at hSw); go_simp) <;> with_reducible rfl)
      (try simp only [Act.put, List.setIfInBounds_toArray, List.set_cons_zero, List.set_cons_succ])
      refine' wpAnyH_take (i := 7) (oi := { dst := some 23, op := Op.load 37 (Operand.tmp 22), type := 37, pos := "slices.go:25", after := #[{ on := 6, ground := Ground.data }], guard := none }) (v := _) rfl (by kernel_rfl) (by kernel_rfl) (by kernel_rfl) (fun _ _ _ h => h) (yieldsIf_load_mid (by rfl) _ _ rfl _ _ rfl EL _ (fun w hSw => hSw.2) Try.underlying37 rfl hS1.out) (by assumption) ?_
      (try simp only [Act.put, List.setIfInBounds_toArray, List.set_cons_zero, List.set_cons_succ])
      refine wpAnyH_take (i := 8) (oi := { dst := some 24, op := Op.binOp BinOp.neq 37 (Operand.tmp 19) (Operand.tmp 23) 37, type := 4, pos := "slices.go:25", after := #[{ on := 3, ground := Ground.data }, { on := 7, ground := Ground.data }], guard := none }) (v := ?_) rfl (by kernel_rfl) (by kernel_rfl) (by kernel_rfl) (fun _ _ _ h => h) (Or.inl ⟨by rfl, ?_⟩) (by assumption) ?_
      rotate_left 1
      · ((intro w hSw; (try dsimp only at hSw); go_simp) <;> with_reducible rfl)
      (try simp only [Act.put, List.setIfInBounds_toArray, List.set_cons_zero, List.set_cons_succ])
      refine wpAnyH_done (by kernel_rfl) ?_ _
      refine NoPanic.normal ?_
      skip
      go_wp2_with fail
      go_roundw
      case rel => exact ⟨k + 1, by go_num, by omega, HBd⟩
      case measure => simp [intOf]; omega
    · have hd2 : decide ((k : Int) < (n : Int)) = false := by simp; omega
      go_wp2_with fail
      go_ret
      exact ⟨rfl, HB.out⟩
end Go.Proofs.Ytmcmapgllaopmaa.Cd
end

section
namespace Go.Proofs.Ytmcmapgllaopmaa.Cd
open Go.RowKit
set_option linter.unusedVariables false
set_option maxRecDepth 100000 in
set_option maxHeartbeats 1000000 in
theorem smC_any (tr : List Int) (hl : tr.length = 32) (A : Option Addr) (n C : Nat) (A' : Option Addr) (C' : Nat) (ids : List (List Int)) (au : ByteArray) (tm : Int) (ms : ByteArray) (w : World) (h : RdIds w A n C ids) (h' : RdIds w A' n C' ids) :
    Calls Try.prog 37 #[.agg (cm tr (.slice A n C) au tm ms).toArray, .agg (cm tr (.slice A' n C') au tm ms).toArray] w fun e w' => e = .returned (.bool true) ∧ Below w.heap.size w w' := by
  have hX := cm_row w tr (.slice A n C) au tm ms hl
  have hY := cm_row (w.alloc (.cells (cm tr (.slice A n C) au tm ms).toArray 40)) tr (.slice A' n C') au tm ms hl
  have hb0 := (Below.refl w.heap.size w).alloc (Nat.le_refl _) (.cells (cm tr (.slice A n C) au tm ms).toArray 40)
  have hb1 := hb0.alloc (al_le w (.cells (cm tr (.slice A n C) au tm ms).toArray 40)) (.cells (cm tr (.slice A' n C') au tm ms).toArray 40)
  have hbX := ((Below.refl _ (w.alloc (.cells (cm tr (.slice A n C) au tm ms).toArray 40))).alloc (Nat.le_refl _) (.cells (cm tr (.slice A' n C') au tm ms).toArray 40))
  have hX2 := hX.of_block (hbX.block _ hX.lt)
  have hs1 : (w.alloc (.cells (cm tr (.slice A n C) au tm ms).toArray 40)).heap.size = w.heap.size + 1 := size_alloc _ _
  rw [hs1] at hY
  have HB := Lib.hid hb1
  have HX := Lib.hid hX2
  have HY := Lib.hid hY
  have HT1 := Lib.hid (cm_tree hX2 hl)
  have HT2 := Lib.hid (cm_tree hY hl)
  have HSz := Lib.hid (show (Try.prog.info? 37).map (·.size) = some (bv tr).length by rw [bv_len, hl]; kernel_rfl)
  have hq : ∀ W, (Op.equalIn 10000 37 (.agg (bv tr).toArray) (.agg (bv tr).toArray)).run Try.prog W = .ok (decide (tr = tr)) W := fun W => ids_eq tr tr hl hl W
  rw [decide_eq_true rfl] at hq
  have HEq := Lib.hid (eqI_same A n C A' C' ids _ (h.below hb1) (h'.below hb1))
  have hae := conv_eq au
  have hme := conv_eq ms
  clear hX hY hX2 hb0 hb1 hbX hs1 h h'
  generalize hCM : cm tr (.slice A n C) au tm ms = CM at *
  generalize hCN : cm tr (.slice A' n C') au tm ms = CN at *
  clear hCM hCN
  generalize hDI : bv tr = DI at *
  clear hDI
  go_enter Try.func37, Try.ntmps37
  have hag : (Value.agg CM.toArray).cells = CM.toArray := rfl
  have hag2 : (Value.agg CN.toArray).cells = CN.toArray := rfl
  go_upto_region 1 with (fail)
  generalize (w.alloc (.cells CM.toArray 40)).alloc (.cells CN.toArray 40) = w1 at *
  obtain ⟨X, hXe⟩ : ∃ X, X = w.heap.size := ⟨_, rfl⟩
  have HXw := Lib.hid hXe
  have hsw : w.heap.size ≤ w1.heap.size := HB.out.size
  rw [← hXe] at HX HY HT1 HT2 ⊢
  obtain ⟨Y, hYe⟩ : ∃ Y, Y = X + 1 := ⟨_, rfl⟩
  rw [← hYe] at HY HT2 ⊢
  clear hXe hYe hag hag2
  have hx32 : w1.cell? ⟨X, 32, none⟩ = some (.slice A n C) := HX.out.cell (i := 32) (by omega)
  have hy32 : w1.cell? ⟨Y, 32, none⟩ = some (.slice A' n C') := HY.out.cell (i := 32) (by omega)
  go_wp2_with (first | refine wpList_load_g (by rfl) _ _ rfl X 0 rfl DI _ HT1.out Try.underlying37 rfl HSz.out ?_ | refine wpList_load_g (by rfl) _ _ rfl Y 0 rfl DI _ HT2.out Try.underlying37 rfl HSz.out ?_)
  refine HEq.out.mono ?_
  rintro e w2 ⟨rfl, hb⟩
  have hX2 := HX.out.of_block (hb.block X HX.out.lt)
  have hY2 := HY.out.of_block (hb.block Y HY.out.lt)
  have hx33 : w2.cell? ⟨X, 33, none⟩ = some (.string au) := hX2.cell (i := 33) (by omega)
  have hx34 : w2.cell? ⟨X, 34, none⟩ = some (.int .i64 tm) := hX2.cell (i := 34) (by omega)
  have hx35 : w2.cell? ⟨X, 35, none⟩ = some (.string ms) := hX2.cell (i := 35) (by omega)
  have hy33 : w2.cell? ⟨Y, 33, none⟩ = some (.string au) := hY2.cell (i := 33) (by omega)
  have hy34 : w2.cell? ⟨Y, 34, none⟩ = some (.int .i64 tm) := hY2.cell (i := 34) (by omega)
  have hy35 : w2.cell? ⟨Y, 35, none⟩ = some (.string ms) := hY2.cell (i := 35) (by omega)
  have HB2 : Hid (Below w.heap.size w w2) := Lib.hid (HB.out.trans (hb.mono hsw))
  clear hX2 hY2 HX HY HT1 HT2 hx32 hy32 hb HEq HB
  go_wp2_with fail
  go_ret
  rw [← HXw.out]
  rw [HXw.out]
  exact ⟨rfl, HB2.out⟩
end Go.Proofs.Ytmcmapgllaopmaa.Cd
end
