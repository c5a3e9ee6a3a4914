/- A commit's bytes in the document's words: what failed first stays. -/
import Derived.Test.YtmcmapgllaopmaaCdHas
namespace Go.Proofs.Ytmcmapgllaopmaa.Cd
open Go.RowKit
set_option linter.unusedVariables false

theorem tkF_st {f : Int} (h : f ≠ 0) (a L n : Nat) : tkF f a L n = f := (tk_no h [] a L n).1
theorem fl_st {f : Int} (h : f ≠ 0) (e : Int) : fl f e = f := by unfold fl; rw [if_neg h]
theorem tx2_st {f : Int} (h : f ≠ 0) (l : List Int) (a L n m : Nat) : tx2 f l a L n m = f := by
  unfold tx2
  rw [tkF_st h, fl_st h, ite_self]
theorem txF_st {f : Int} (h : f ≠ 0) (l : List Int) (a L n m : Nat) : txF f l a L n m = f := by
  unfold txF
  rw [tx2_st h, tkF_st h]
theorem enF_st {f : Int} (h : f ≠ 0) (a L : Nat) : enF f a L = f := by
  unfold enF
  rw [fl_st h, ite_self]
theorem pL_st {f : Int} (h : f ≠ 0) (l : List Int) (L n a : Nat) (ids : List (List Int)) : pL l L n f a ids = (f, a, ids) := by
  cases n with
  | zero => rfl
  | succ n => rw [pL, if_neg h]
theorem pa_st {f : Int} (h : f ≠ 0) (l : List Int) (a L : Nat) : (pa f l a L).1 = f := by
  have h2 : pa2 f l a L = f := by
    unfold pa2
    rw [tkF_st h, fl_st h, ite_self]
  unfold pa
  rw [h2, pL_st h]
theorem c6_st {f : Int} (h : f ≠ 0) {l : List Int} {L : Nat} (h6 : cF6 0 l 0 L = f) : cF7 0 l 0 L = f := by
  unfold cF7
  rw [h6, enF_st h]
theorem cm_st {f : Int} (h : f ≠ 0) {l : List Int} {L : Nat} (h6 : tx2 (cF5 0 l 0 L) l (cA5 0 l 0 L) L 2 1000 = f) : cF7 0 l 0 L = f := by
  refine c6_st h ?_
  unfold cF6 txF
  rw [h6, tkF_st h]
theorem c4_st {f : Int} (h : f ≠ 0) {l : List Int} {L : Nat} (h4 : cF4 0 l 0 L = f) : cF7 0 l 0 L = f := by
  have h5 : cF5 0 l 0 L = f := by unfold cF5; rw [h4, tkF_st h]
  refine cm_st h ?_
  rw [h5, tx2_st h]
theorem ca_st {f : Int} (h : f ≠ 0) {l : List Int} {L : Nat} (h4 : tx2 (cQ 0 l 0 L).1 l (cQ 0 l 0 L).2.1 L 2 1000 = f) : cF7 0 l 0 L = f := by
  refine c4_st h ?_
  unfold cF4 txF
  rw [h4, tkF_st h]
theorem cQ_st {f : Int} (h : f ≠ 0) {l : List Int} {L : Nat} (hq : (cQ 0 l 0 L).1 = f) : cF7 0 l 0 L = f := by
  refine ca_st h ?_
  rw [hq, tx2_st h]
theorem c2_st {f : Int} (h : f ≠ 0) {l : List Int} {L : Nat} (h2 : cF2 0 l 0 L = f) : cF7 0 l 0 L = f := by
  refine cQ_st h ?_
  unfold cQ
  rw [h2, pa_st h]

/-! ### the same bytes, in the document's words -/
theorem c1_of (l : List Int) (L : Nat) : cT 0 l 0 L = idv (cuB false l 0 32 L) ∧ tkF 0 0 L 32 = ff (cuC false 0 32 L) ∧ tkA 0 0 L 32 = cuP false 0 32 L := by
  have e0 : (0 : Int) = ff false := rfl
  unfold cT
  exact ⟨by rw [e0, tkL_ff], by rw [e0, tkF_ff], by rw [e0, tkA_ff]⟩
theorem c2_of (l : List Int) (L : Nat) : cF2 0 l 0 L = if idv (cuB false l 0 32 L) = List.replicate 32 0 then fl (ff (cuC false 0 32 L)) 1 else ff (cuC false 0 32 L) := by
  unfold cF2
  rw [(c1_of l L).1, (c1_of l L).2.1]
theorem cQ_of {l : List Int} {L P1 : Nat} {C1 : Bool} (h2 : cF2 0 l 0 L = ff C1) (hA : tkA 0 0 L 32 = P1) : cQ 0 l 0 L = pL l L (nv (cuB C1 l P1 1 L)).toNat (if 8 < (nv (cuB C1 l P1 1 L)).toNat then fl (ff (cuC C1 P1 1 L)) 4 else ff (cuC C1 P1 1 L)) (cuP C1 P1 1 L) [] := by
  unfold cQ pa pa2 paM
  rw [h2, hA, tkF_ff, tkA_ff, tkL_ff]
theorem tx_of (l : List Int) (L P3 : Nat) (C3 : Bool) : tx2 (ff C3) l P3 L 2 1000 = if 1000 < (nv (cuB C3 l P3 2 L)).toNat then fl (ff (cuC C3 P3 2 L)) 5 else ff (cuC C3 P3 2 L) := by
  unfold tx2 txM
  rw [tkF_ff, tkL_ff]
theorem txS_of {l : List Int} {L P3 : Nat} {C3 C4 : Bool} (ht : tx2 (ff C3) l P3 L 2 1000 = ff C4) : txS (ff C3) l P3 L 2 1000 = sb (cuB C4 l (cuP C3 P3 2 L) (nv (cuB C3 l P3 2 L)).toNat L) ∧ txA (ff C3) l P3 L 2 1000 = cuP C4 (cuP C3 P3 2 L) (nv (cuB C3 l P3 2 L)).toNat L ∧ txF (ff C3) l P3 L 2 1000 = ff (cuC C4 (cuP C3 P3 2 L) (nv (cuB C3 l P3 2 L)).toNat L) := by
  unfold txS txA txF
  rw [ht, tkL_ff, tkA_ff, tkF_ff]
  unfold txM
  rw [tkL_ff, tkA_ff]
  exact ⟨rfl, rfl, rfl⟩
theorem c4_of {l : List Int} {L P3 : Nat} {C3 C4 : Bool} (hq : (cQ 0 l 0 L).1 = ff C3) (hp : (cQ 0 l 0 L).2.1 = P3) (ht : tx2 (ff C3) l P3 L 2 1000 = ff C4) : cAu 0 l 0 L = sb (cuB C4 l (cuP C3 P3 2 L) (nv (cuB C3 l P3 2 L)).toNat L) ∧ cA4 0 l 0 L = cuP C4 (cuP C3 P3 2 L) (nv (cuB C3 l P3 2 L)).toNat L ∧ cF4 0 l 0 L = ff (cuC C4 (cuP C3 P3 2 L) (nv (cuB C3 l P3 2 L)).toNat L) := by
  unfold cAu cA4 cF4
  rw [hq, hp]
  exact txS_of ht
theorem c5_of {l : List Int} {L P5 : Nat} {C5 : Bool} (hf : cF4 0 l 0 L = ff C5) (ha : cA4 0 l 0 L = P5) : cB 0 l 0 L = cuB C5 l P5 8 L ∧ cA5 0 l 0 L = cuP C5 P5 8 L ∧ cF5 0 l 0 L = ff (cuC C5 P5 8 L) := by
  unfold cB cA5 cF5
  rw [hf, ha, tkL_ff, tkA_ff, tkF_ff]
  exact ⟨rfl, rfl, rfl⟩
theorem c6_of {l : List Int} {L P6 : Nat} {C6 C7 : Bool} (hf : cF5 0 l 0 L = ff C6) (ha : cA5 0 l 0 L = P6) (ht : tx2 (ff C6) l P6 L 2 1000 = ff C7) : cMs 0 l 0 L = sb (cuB C7 l (cuP C6 P6 2 L) (nv (cuB C6 l P6 2 L)).toNat L) ∧ cA6 0 l 0 L = cuP C7 (cuP C6 P6 2 L) (nv (cuB C6 l P6 2 L)).toNat L ∧ cF6 0 l 0 L = ff (cuC C7 (cuP C6 P6 2 L) (nv (cuB C6 l P6 2 L)).toNat L) := by
  unfold cMs cA6 cF6
  rw [hf, ha]
  exact txS_of ht

/-- the words of the walk: where the document's ParseCommit is -/
structure Pc (w0 w : World) (O R X : Nat) (A : Option Addr) (L C : Nat) (l : List Int) (P : Nat) (cut : Bool) (ZC : Array Value) (tr : List Int) (Ai : Option Addr) (ni Ci : Nat) (ids : List (List Int)) (au : ByteArray) (tm : Int) (ms : ByteArray) : Prop where
  u : Cu w R A L C l P cut
  o : w.rowIs O 40 36 (fun i => ZC.getD i undef)
  x : w.rowIs X 40 36 (cmF tr (.slice Ai ni Ci) au tm ms)
  own : w.ownsRow (X + 1) 37 32 (.slice Ai ni Ci) ni (idsV ids)
  b : Below O w0 w
  hOR : O < R
  hRX : R < X
  hA : ∀ x, A = some x → 0 < L → x.block < O
theorem Pc.grown {w0 w w' : World} {O R X : Nat} {A : Option Addr} {L C : Nat} {l : List Int} {P : Nat} {cut : Bool} {ZC : Array Value} {tr : List Int} {Ai : Option Addr} {ni Ci : Nat} {ids : List (List Int)} {au : ByteArray} {tm : Int} {ms : ByteArray} {P' : Nat} {cut' : Bool}
    (h : Pc w0 w O R X A L C l P cut ZC tr Ai ni Ci ids au tm ms) (hg : w.grownBy w' (some R)) (hu : Cu w' R A L C l P' cut') : Pc w0 w' O R X A L C l P' cut' ZC tr Ai ni Ci ids au tm ms := by
  have h1 := h.hOR
  have h2 := h.hRX
  have h3 := h.x.lt
  exact ⟨hu, h.o.of_block (hg.block O h.o.lt (fun e => by have := Option.some.inj e; omega)), h.x.of_block (hg.block X h.x.lt (fun e => by have := Option.some.inj e; omega)),
    own_grown h.own hg (fun e => by have := (h.own.lt R e).1; omega), h.b.grown hg (by omega) (fun k hk => by have := Option.some.inj hk; omega), h1, h2, h.hA⟩
theorem Pc.below {w0 w w' : World} {O R X : Nat} {A : Option Addr} {L C : Nat} {l : List Int} {P : Nat} {cut : Bool} {ZC : Array Value} {tr : List Int} {Ai : Option Addr} {ni Ci : Nat} {ids : List (List Int)} {au : ByteArray} {tm : Int} {ms : ByteArray}
    (h : Pc w0 w O R X A L C l P cut ZC tr Ai ni Ci ids au tm ms) (hb : Below w.heap.size w w') : Pc w0 w' O R X A L C l P cut ZC tr Ai ni Ci ids au tm ms :=
  ⟨h.u.below hb, h.o.of_block (hb.block O h.o.lt), h.x.of_block (hb.block X h.x.lt), own_keep h.own hb, h.b.trans (hb.mono (Nat.le_of_lt h.o.lt)), h.hOR, h.hRX, h.hA⟩
theorem Pc.set {w0 w : World} {O R X : Nat} {A : Option Addr} {L C : Nat} {l : List Int} {P : Nat} {cut : Bool} {ZC : Array Value} {tr : List Int} {Ai : Option Addr} {ni Ci : Nat} {ids : List (List Int)} {au : ByteArray} {tm : Int} {ms : ByteArray} {au' : ByteArray} {tm' : Int} {ms' : ByteArray}
    (h : Pc w0 w O R X A L C l P cut ZC tr Ai ni Ci ids au tm ms) (i : Nat) (v : Value) (he : ∀ j, (if j = i then v else cmF tr (.slice Ai ni Ci) au tm ms j) = cmF tr (.slice Ai ni Ci) au' tm' ms' j) : Pc w0 (w.setCell ⟨X, i, none⟩ v) O R X A L C l P cut ZC tr Ai ni Ci ids au' tm' ms' := by
  have h1 := h.hOR
  have h2 := h.hRX
  exact ⟨h.u.setX X i v (by omega) (fun x hx h0 => by have := h.hA x hx h0; omega), h.o.setOther (a := ⟨X, i, none⟩) (by show O ≠ X; omega) v, (h.x.set i v).congr (fun j _ => he j),
    own_grown h.own (grown_set w X i v) (fun e => by have := (h.own.lt X e).1; omega), h.b.setCell (p := ⟨X, i, none⟩) (by show O ≤ X; omega) v, h1, h2, h.hA⟩
theorem cmF_au (tr : List Int) (ps : Value) (au au' : ByteArray) (tm : Int) (ms : ByteArray) (j : Nat) : (if j = 33 then Value.string au' else cmF tr ps au tm ms j) = cmF tr ps au' tm ms j := by
  unfold cmF
  by_cases e : j = 33
  · subst e; simp
  · simp [e]
theorem cmF_ps (tr : List Int) (ps ps' : Value) (au : ByteArray) (tm : Int) (ms : ByteArray) (j : Nat) : (if j = 32 then ps' else cmF tr ps au tm ms j) = cmF tr ps' au tm ms j := by
  unfold cmF
  by_cases e : j = 32
  · subst e; simp
  · simp [e]
/-- a store of whole cells elsewhere, behind all -/
theorem Pc.cells {w0 w : World} {O R X : Nat} {A : Option Addr} {L C : Nat} {l : List Int} {P : Nat} {cut : Bool} {ZC : Array Value} {tr : List Int} {Ai : Option Addr} {ni Ci : Nat} {ids : List (List Int)} {au : ByteArray} {tm : Int} {ms : ByteArray}
    (h : Pc w0 w O R X A L C l P cut ZC tr Ai ni Ci ids au tm ms) (o : Obj) (vs : List Value) : Pc w0 ((w.alloc o).setCells w.heap.size 0 vs) O R X A L C l P cut ZC tr Ai ni Ci ids au tm ms :=
  h.below (below_cells (Nat.le_refl _) vs 0 _ ((Below.refl w.heap.size w).alloc (Nat.le_refl _) o))
/-- the commit's Fin, at the result's cell -/
theorem Pc.fin {w0 w : World} {O R X : Nat} {A : Option Addr} {L C : Nat} {l : List Int} {P : Nat} {cut : Bool} {ZC : Array Value} {tr : List Int} {Ai : Option Addr} {ni Ci : Nat} {ids : List (List Int)} {au : ByteArray} {tm : Int} {ms : ByteArray}
    (h : Pc w0 w O R X A L C l P cut ZC tr Ai ni Ci ids au tm ms) : Fin w0 O w O 40 cm0 := Fin.mk' cm0_len cm0_one h.o h.b (Nat.le_refl _)

/-- a commit built out of its tree alone -/
theorem built_cm : ∀ (tr : List Int), tr.length = 32 → Try.prog.built 40 [(0, .agg (bv tr).toArray)] = some (cm tr (.slice none 0 0) ByteArray.empty 0 ByteArray.empty).toArray
  | [a0, a1, a2, a3, a4, a5, a6, a7, a8, a9, a10, a11, a12, a13, a14, a15, a16, a17, a18, a19, a20, a21, a22, a23, a24, a25, a26, a27, a28, a29, a30, a31], _ => by kernel_rfl
end Go.Proofs.Ytmcmapgllaopmaa.Cd
