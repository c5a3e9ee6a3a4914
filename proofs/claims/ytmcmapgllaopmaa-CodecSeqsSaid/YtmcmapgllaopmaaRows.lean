/-
  No cell of these rows narrows 'for every input' (looked for: loops, veiled, ifaces, maps, wideKeys, modest, calm, conditions, laid).
  DERIVED. THE GIVEN ROWS OF THIS SEAT. 8 by the template 'for every input the law returns true; each argument reads behind the call as it read before'; 0 by the template 'total and deterministic' (their statements: YtmcmapgllaopmaaTotals.lean).
  GIVEN WITH THE SEED: the statements are not yours to turn. If you find one false, say at which input.
  Laid BY PROGRAM, IN A SANDBOX (cutbox-rows.mjs): the forced cells as the released guide's own fill.sh prints them over the translation 558f033cd127cccf… (all of the seat's roots in one cut). By AI agents, Wed Nov 11 2026. No macro, syntax, notation, axiom, sorry.
-/
import Derived.Test.YtmcmapgllaopmaaChecked
import GoSem.Claim
import GoSem.ClaimJoined
import GoSem.ClaimMapViews
import Derived.JoinedTies
import Derived.KernelRfl
namespace Go.Proofs.Ytmcmapgllaopmaa
/- THE CELL 'sum', in the pinned program and in every row, IS THE sha256 OF THE DUMP (.gsa) THAT YtmcmapgllaopmaaProg.lean LOADS. Nothing in Lean hashes anything: it is a label: what it is worth is what the hold of that sum in a sandbox is worth. -/
noncomputable def Try.pinned : Pinned := { name := "ytmcmapgllaopmaa", sum := "558f033cd127cccf237816b36b1fae97382c55bca2b3842fd7269f58fecd7489", checked := Try.checked }
namespace Rows
def none {H : Type} : Left H := { results := [], args := [] }

/-- 'selvagelaw4.CodecTrees': WHATEVER THE INPUT: true; the input reads as it did. -/
def codecTreesSpec : ChangeSpec := { name := "codecTrees", fn := fun _ => fun
  | [d1, d2] => { results := [.lit (.bool true)], args := [d1, d2] }
  | _ => none }
def codecTreesRow : OpenClaim := { program := "ytmcmapgllaopmaa", sum := "558f033cd127cccf237816b36b1fae97382c55bca2b3842fd7269f58fecd7489", func := "selvage/selvagelaw4.CodecTrees", spec := "codecTrees", inPlace := ["internal/bytealg.IndexByteString"], apart := false }
def CodecTreesSaid : Prop := codecTreesRow.holds Try.pinned (OpenSpec.ofChange codecTreesSpec)

/-- ITS FALSE NEIGHBOUR: 'it returns false'. Refute it at one input. -/
def codecTreesWrong : ChangeSpec := { name := "codecTrees", fn := fun _ => fun
  | [d1, d2] => { results := [.lit (.bool false)], args := [d1, d2] }
  | _ => none }
def CodecTreesWrongFalsely : Prop := codecTreesRow.holds Try.pinned (OpenSpec.ofChange codecTreesWrong)

/-- 'selvagelaw4.CodecCommits': WHATEVER THE INPUT: true; the input reads as it did. -/
def codecCommitsSpec : ChangeSpec := { name := "codecCommits", fn := fun _ => fun
  | [d1, d2] => { results := [.lit (.bool true)], args := [d1, d2] }
  | _ => none }
def codecCommitsRow : OpenClaim := { program := "ytmcmapgllaopmaa", sum := "558f033cd127cccf237816b36b1fae97382c55bca2b3842fd7269f58fecd7489", func := "selvage/selvagelaw4.CodecCommits", spec := "codecCommits", inPlace := ["internal/bytealg.IndexByteString"], apart := false }
def CodecCommitsSaid : Prop := codecCommitsRow.holds Try.pinned (OpenSpec.ofChange codecCommitsSpec)

/-- ITS FALSE NEIGHBOUR: 'it returns false'. Refute it at one input. -/
def codecCommitsWrong : ChangeSpec := { name := "codecCommits", fn := fun _ => fun
  | [d1, d2] => { results := [.lit (.bool false)], args := [d1, d2] }
  | _ => none }
def CodecCommitsWrongFalsely : Prop := codecCommitsRow.holds Try.pinned (OpenSpec.ofChange codecCommitsWrong)

/-- 'selvagelaw4.CodecObjs': WHATEVER THE INPUT: true; the input reads as it did. -/
def codecObjsSpec : ChangeSpec := { name := "codecObjs", fn := fun _ => fun
  | [d1, d2] => { results := [.lit (.bool true)], args := [d1, d2] }
  | _ => none }
def codecObjsRow : OpenClaim := { program := "ytmcmapgllaopmaa", sum := "558f033cd127cccf237816b36b1fae97382c55bca2b3842fd7269f58fecd7489", func := "selvage/selvagelaw4.CodecObjs", spec := "codecObjs", inPlace := ["internal/bytealg.IndexByteString"], apart := false }
def CodecObjsSaid : Prop := codecObjsRow.holds Try.pinned (OpenSpec.ofChange codecObjsSpec)

/-- ITS FALSE NEIGHBOUR: 'it returns false'. Refute it at one input. -/
def codecObjsWrong : ChangeSpec := { name := "codecObjs", fn := fun _ => fun
  | [d1, d2] => { results := [.lit (.bool false)], args := [d1, d2] }
  | _ => none }
def CodecObjsWrongFalsely : Prop := codecObjsRow.holds Try.pinned (OpenSpec.ofChange codecObjsWrong)

/-- 'selvagelaw4.CodecTxs': WHATEVER THE INPUT: true; the input reads as it did. -/
def codecTxsSpec : ChangeSpec := { name := "codecTxs", fn := fun _ => fun
  | [d1, d2, d3] => { results := [.lit (.bool true)], args := [d1, d2, d3] }
  | _ => none }
def codecTxsRow : OpenClaim := { program := "ytmcmapgllaopmaa", sum := "558f033cd127cccf237816b36b1fae97382c55bca2b3842fd7269f58fecd7489", func := "selvage/selvagelaw4.CodecTxs", spec := "codecTxs", inPlace := ["internal/bytealg.IndexByteString"], unfollowed := true, recurses := true, apart := false }
def CodecTxsSaid : Prop := codecTxsRow.holds Try.pinned (OpenSpec.ofChange codecTxsSpec)

/-- ITS FALSE NEIGHBOUR: 'it returns false'. Refute it at one input. -/
def codecTxsWrong : ChangeSpec := { name := "codecTxs", fn := fun _ => fun
  | [d1, d2, d3] => { results := [.lit (.bool false)], args := [d1, d2, d3] }
  | _ => none }
def CodecTxsWrongFalsely : Prop := codecTxsRow.holds Try.pinned (OpenSpec.ofChange codecTxsWrong)

/-- 'selvagelaw4.CodecNames': WHATEVER THE INPUT: true; the input reads as it did. -/
def codecNamesSpec : ChangeSpec := { name := "codecNames", fn := fun _ => fun
  | [d] => { results := [.lit (.bool true)], args := [d] }
  | _ => none }
def codecNamesRow : OpenClaim := { program := "ytmcmapgllaopmaa", sum := "558f033cd127cccf237816b36b1fae97382c55bca2b3842fd7269f58fecd7489", func := "selvage/selvagelaw4.CodecNames", spec := "codecNames", inPlace := ["internal/bytealg.IndexByteString"], apart := false }
def CodecNamesSaid : Prop := codecNamesRow.holds Try.pinned (OpenSpec.ofChange codecNamesSpec)

/-- ITS FALSE NEIGHBOUR: 'it returns false'. Refute it at one input. -/
def codecNamesWrong : ChangeSpec := { name := "codecNames", fn := fun _ => fun
  | [d] => { results := [.lit (.bool false)], args := [d] }
  | _ => none }
def CodecNamesWrongFalsely : Prop := codecNamesRow.holds Try.pinned (OpenSpec.ofChange codecNamesWrong)

/-- 'selvagelaw4.CodecBack': WHATEVER THE INPUT: true; the input reads as it did. -/
def codecBackSpec : ChangeSpec := { name := "codecBack", fn := fun _ => fun
  | [d1, d2, d3, d4] => { results := [.lit (.bool true)], args := [d1, d2, d3, d4] }
  | _ => none }
def codecBackRow : OpenClaim := { program := "ytmcmapgllaopmaa", sum := "558f033cd127cccf237816b36b1fae97382c55bca2b3842fd7269f58fecd7489", func := "selvage/selvagelaw4.CodecBack", spec := "codecBack", inPlace := ["internal/bytealg.IndexByteString"], unfollowed := true, recurses := true, apart := false }
def CodecBackSaid : Prop := codecBackRow.holds Try.pinned (OpenSpec.ofChange codecBackSpec)

/-- ITS FALSE NEIGHBOUR: 'it returns false'. Refute it at one input. -/
def codecBackWrong : ChangeSpec := { name := "codecBack", fn := fun _ => fun
  | [d1, d2, d3, d4] => { results := [.lit (.bool false)], args := [d1, d2, d3, d4] }
  | _ => none }
def CodecBackWrongFalsely : Prop := codecBackRow.holds Try.pinned (OpenSpec.ofChange codecBackWrong)

/-- 'selvagelaw4.CodecApart': WHATEVER THE INPUT: true; the input reads as it did. -/
def codecApartSpec : ChangeSpec := { name := "codecApart", fn := fun _ => fun
  | [d1, d2] => { results := [.lit (.bool true)], args := [d1, d2] }
  | _ => none }
def codecApartRow : OpenClaim := { program := "ytmcmapgllaopmaa", sum := "558f033cd127cccf237816b36b1fae97382c55bca2b3842fd7269f58fecd7489", func := "selvage/selvagelaw4.CodecApart", spec := "codecApart", inPlace := ["internal/bytealg.IndexByteString"], apart := false }
def CodecApartSaid : Prop := codecApartRow.holds Try.pinned (OpenSpec.ofChange codecApartSpec)

/-- ITS FALSE NEIGHBOUR: 'it returns false'. Refute it at one input. -/
def codecApartWrong : ChangeSpec := { name := "codecApart", fn := fun _ => fun
  | [d1, d2] => { results := [.lit (.bool false)], args := [d1, d2] }
  | _ => none }
def CodecApartWrongFalsely : Prop := codecApartRow.holds Try.pinned (OpenSpec.ofChange codecApartWrong)

/-- 'selvagelaw4.CodecSeqs': WHATEVER THE INPUT: true; the input reads as it did. -/
def codecSeqsSpec : ChangeSpec := { name := "codecSeqs", fn := fun _ => fun
  | [d1, d2] => { results := [.lit (.bool true)], args := [d1, d2] }
  | _ => none }
def codecSeqsRow : OpenClaim := { program := "ytmcmapgllaopmaa", sum := "558f033cd127cccf237816b36b1fae97382c55bca2b3842fd7269f58fecd7489", func := "selvage/selvagelaw4.CodecSeqs", spec := "codecSeqs", inPlace := ["internal/bytealg.IndexByteString"], unfollowed := true, recurses := true, apart := false }
def CodecSeqsSaid : Prop := codecSeqsRow.holds Try.pinned (OpenSpec.ofChange codecSeqsSpec)

/-- ITS FALSE NEIGHBOUR: 'it returns false'. Refute it at one input. -/
def codecSeqsWrong : ChangeSpec := { name := "codecSeqs", fn := fun _ => fun
  | [d1, d2] => { results := [.lit (.bool false)], args := [d1, d2] }
  | _ => none }
def CodecSeqsWrongFalsely : Prop := codecSeqsRow.holds Try.pinned (OpenSpec.ofChange codecSeqsWrong)

/- THE SECOND FORM. 'bulk': how many values and letters a reading holds, each counted each time it is reached (what is shared counts as often as it is met; a slice's spare places count too). A statement '..UptoSaid' is the law's where the arguments, and the package variables that the reading takes, are together of bulk at most 1048576: NARROWER than '..Said'. Prove '..Said' where nothing that the law and all that it calls make is longer than what came in: it says more and counts as full. Else prove '..UptoSaid'. A law counts once. -/
mutual
def uptoBulk {H : Type} : DataW H → Nat
  | .lit (.string bytes) => bytes.length + 1
  | .lit _ => 1
  | .nil => 1
  | .ptr d => uptoBulk d + 1
  | .slice elems spare => uptoBulkAll elems + uptoBulkAll spare + 1
  | .agg parts => uptoBulkAll parts + 1
  | .iface _ d => uptoBulk d + 1
  | .map entries => uptoBulkEntries entries + 1
  | .held _ => 1
def uptoBulkAll {H : Type} : List (DataW H) → Nat
  | [] => 0
  | d :: r => uptoBulk d + uptoBulkAll r
def uptoBulkEntries {H : Type} : List (Lit × DataW H) → Nat
  | [] => 0
  | x :: r => uptoBulkEntry x + uptoBulkEntries r
def uptoBulkEntry {H : Type} : Lit × DataW H → Nat
  | (.string bytes, d) => bytes.length + uptoBulk d + 1
  | (_, d) => uptoBulk d + 1
 end
def uptoSmall : (H : Type) → List (DataW H) → Bool := fun _ ds => decide (uptoBulkAll ds ≤ 1048576)
def OpenSpec.upto (s : _root_.Go.ChangeSpec) : _root_.Go.OpenSpec := { _root_.Go.OpenSpec.ofChange s with cond := some uptoSmall }

/-- 'selvagelaw4.CodecTrees', WHERE WHAT IT READS IS OF BULK AT MOST 1048576: true; the input reads as it did. -/
def codecTreesUptoRow : OpenClaim := { program := "ytmcmapgllaopmaa", sum := "558f033cd127cccf237816b36b1fae97382c55bca2b3842fd7269f58fecd7489", func := "selvage/selvagelaw4.CodecTrees", spec := "codecTrees", inPlace := ["internal/bytealg.IndexByteString"], apart := false, narrowed := true }
def CodecTreesUptoSaid : Prop := codecTreesUptoRow.holds Try.pinned (OpenSpec.upto codecTreesSpec)

/-- 'selvagelaw4.CodecCommits', WHERE WHAT IT READS IS OF BULK AT MOST 1048576: true; the input reads as it did. -/
def codecCommitsUptoRow : OpenClaim := { program := "ytmcmapgllaopmaa", sum := "558f033cd127cccf237816b36b1fae97382c55bca2b3842fd7269f58fecd7489", func := "selvage/selvagelaw4.CodecCommits", spec := "codecCommits", inPlace := ["internal/bytealg.IndexByteString"], apart := false, narrowed := true }
def CodecCommitsUptoSaid : Prop := codecCommitsUptoRow.holds Try.pinned (OpenSpec.upto codecCommitsSpec)

/-- 'selvagelaw4.CodecObjs', WHERE WHAT IT READS IS OF BULK AT MOST 1048576: true; the input reads as it did. -/
def codecObjsUptoRow : OpenClaim := { program := "ytmcmapgllaopmaa", sum := "558f033cd127cccf237816b36b1fae97382c55bca2b3842fd7269f58fecd7489", func := "selvage/selvagelaw4.CodecObjs", spec := "codecObjs", inPlace := ["internal/bytealg.IndexByteString"], apart := false, narrowed := true }
def CodecObjsUptoSaid : Prop := codecObjsUptoRow.holds Try.pinned (OpenSpec.upto codecObjsSpec)

/-- 'selvagelaw4.CodecTxs', WHERE WHAT IT READS IS OF BULK AT MOST 1048576: true; the input reads as it did. -/
def codecTxsUptoRow : OpenClaim := { program := "ytmcmapgllaopmaa", sum := "558f033cd127cccf237816b36b1fae97382c55bca2b3842fd7269f58fecd7489", func := "selvage/selvagelaw4.CodecTxs", spec := "codecTxs", inPlace := ["internal/bytealg.IndexByteString"], unfollowed := true, recurses := true, apart := false, narrowed := true }
def CodecTxsUptoSaid : Prop := codecTxsUptoRow.holds Try.pinned (OpenSpec.upto codecTxsSpec)

/-- 'selvagelaw4.CodecNames', WHERE WHAT IT READS IS OF BULK AT MOST 1048576: true; the input reads as it did. -/
def codecNamesUptoRow : OpenClaim := { program := "ytmcmapgllaopmaa", sum := "558f033cd127cccf237816b36b1fae97382c55bca2b3842fd7269f58fecd7489", func := "selvage/selvagelaw4.CodecNames", spec := "codecNames", inPlace := ["internal/bytealg.IndexByteString"], apart := false, narrowed := true }
def CodecNamesUptoSaid : Prop := codecNamesUptoRow.holds Try.pinned (OpenSpec.upto codecNamesSpec)

/-- 'selvagelaw4.CodecBack', WHERE WHAT IT READS IS OF BULK AT MOST 1048576: true; the input reads as it did. -/
def codecBackUptoRow : OpenClaim := { program := "ytmcmapgllaopmaa", sum := "558f033cd127cccf237816b36b1fae97382c55bca2b3842fd7269f58fecd7489", func := "selvage/selvagelaw4.CodecBack", spec := "codecBack", inPlace := ["internal/bytealg.IndexByteString"], unfollowed := true, recurses := true, apart := false, narrowed := true }
def CodecBackUptoSaid : Prop := codecBackUptoRow.holds Try.pinned (OpenSpec.upto codecBackSpec)

/-- 'selvagelaw4.CodecApart', WHERE WHAT IT READS IS OF BULK AT MOST 1048576: true; the input reads as it did. -/
def codecApartUptoRow : OpenClaim := { program := "ytmcmapgllaopmaa", sum := "558f033cd127cccf237816b36b1fae97382c55bca2b3842fd7269f58fecd7489", func := "selvage/selvagelaw4.CodecApart", spec := "codecApart", inPlace := ["internal/bytealg.IndexByteString"], apart := false, narrowed := true }
def CodecApartUptoSaid : Prop := codecApartUptoRow.holds Try.pinned (OpenSpec.upto codecApartSpec)

/-- 'selvagelaw4.CodecSeqs', WHERE WHAT IT READS IS OF BULK AT MOST 1048576: true; the input reads as it did. -/
def codecSeqsUptoRow : OpenClaim := { program := "ytmcmapgllaopmaa", sum := "558f033cd127cccf237816b36b1fae97382c55bca2b3842fd7269f58fecd7489", func := "selvage/selvagelaw4.CodecSeqs", spec := "codecSeqs", inPlace := ["internal/bytealg.IndexByteString"], unfollowed := true, recurses := true, apart := false, narrowed := true }
def CodecSeqsUptoSaid : Prop := codecSeqsUptoRow.holds Try.pinned (OpenSpec.upto codecSeqsSpec)

end Rows
end Go.Proofs.Ytmcmapgllaopmaa
