/- Scripts that are done: what is done, and lines.Apply walked. -/
import Derived.Test.YtlaneilmffdahaaLnOpen
import Derived.Deep.RegionHeld3
namespace Go.Proofs.Ytlaneilmffdahaa.Ln
open Go.RowKit
set_option linter.unusedVariables false
section
variable {α : Type} {prev : Option Int} {a d out : List α} {op n : Int} {e : List (Int × Int)}
end
/-- a slice of edits that is read -/
structure RdE (w : World) (B : Nat) (a : Option Addr) (n cap : Nat) (es : List (Int × Int)) : Prop where
  hlen : es.length = n
  hcap : n ≤ cap
  hmax : cap ≤ 9223372036854775807
  hbig : n ≤ 140737488355328
  hnone : a = none → cap = 0
  hcell : ∀ i (hi : i < es.length), ∃ b off, a = some ⟨b, off, none⟩ ∧ b < B ∧ w.cell? ⟨b, off + i * 2, none⟩ = some (.int .i64 (es[i]'hi).1) ∧ w.cell? ⟨b, off + i * 2 + 1, none⟩ = some (.int .i64 (es[i]'hi).2)
theorem RdE.below {w w' : World} {B : Nat} {a : Option Addr} {n cap : Nat} {es : List (Int × Int)} (h : RdE w B a n cap es) (hb : Below B w w') : RdE w' B a n cap es :=
  ⟨h.hlen, h.hcap, h.hmax, h.hbig, h.hnone, fun i hi => by
    obtain ⟨b, off, ha, hlt, h1, h2⟩ := h.hcell i hi
    exact ⟨b, off, ha, hlt, (hb.cell (p := ⟨b, off + i * 2, none⟩) hlt).trans h1, (hb.cell (p := ⟨b, off + i * 2 + 1, none⟩) hlt).trans h2⟩⟩
theorem RdE.more {w : World} {B B' : Nat} {a : Option Addr} {n cap : Nat} {es : List (Int × Int)} (h : RdE w B a n cap es) (hB : B ≤ B') : RdE w B' a n cap es :=
  ⟨h.hlen, h.hcap, h.hmax, h.hbig, h.hnone, fun i hi => by
    obtain ⟨b, off, ha, hlt, h1, h2⟩ := h.hcell i hi
    exact ⟨b, off, ha, by omega, h1, h2⟩⟩
end Go.Proofs.Ytlaneilmffdahaa.Ln
