/-
  No cell of these rows narrows 'for every input' (looked for: loops, veiled, ifaces, maps, wideKeys, modest, calm, conditions, laid).
  DERIVED. THE GIVEN ROWS OF THIS SEAT. 6 by the template 'for every input the law returns true; each argument reads behind the call as it read before'; 0 by the template 'total and deterministic' (their statements: YtplfilghhgdffaaTotals.lean).
  GIVEN WITH THE SEED: the statements are not yours to turn. If you find one false, say at which input.
  Laid BY PROGRAM, IN A SANDBOX (cutbox-rows.mjs): the forced cells as the released guide's own fill.sh prints them over the translation 447240b71e31484a… (all of the seat's roots in one cut). By AI agents, Wed Nov 11 2026. No macro, syntax, notation, axiom, sorry.
-/
import Derived.Test.YtplfilghhgdffaaChecked
import GoSem.Claim
import GoSem.ClaimJoined
import GoSem.ClaimMapViews
import Derived.JoinedTies
import Derived.KernelRfl
namespace Go.Proofs.Ytplfilghhgdffaa
/- THE CELL 'sum', in the pinned program and in every row, IS THE sha256 OF THE DUMP (.gsa) THAT YtplfilghhgdffaaProg.lean LOADS. Nothing in Lean hashes anything: it is a label: what it is worth is what the hold of that sum in a sandbox is worth. -/
noncomputable def Try.pinned : Pinned := { name := "ytplfilghhgdffaa", sum := "447240b71e31484a41c9b9c1d6e741fe25bf8ae071a0a03988f2165442af4881", checked := Try.checked }
namespace Rows
def none {H : Type} : Left H := { results := [], args := [] }

/-- 'waymarklaw05.ReachEdges': WHATEVER THE INPUT: true; the input reads as it did. -/
def reachEdgesSpec : ChangeSpec := { name := "reachEdges", fn := fun _ => fun
  | [d] => { results := [.lit (.bool true)], args := [d] }
  | _ => none }
def reachEdgesRow : OpenClaim := { program := "ytplfilghhgdffaa", sum := "447240b71e31484a41c9b9c1d6e741fe25bf8ae071a0a03988f2165442af4881", func := "waymark/waymarklaw05.ReachEdges", spec := "reachEdges", unfollowed := true, recurses := true, apart := false }
def ReachEdgesSaid : Prop := reachEdgesRow.holds Try.pinned (OpenSpec.ofChange reachEdgesSpec)

/-- ITS FALSE NEIGHBOUR: 'it returns false'. Refute it at one input. -/
def reachEdgesWrong : ChangeSpec := { name := "reachEdges", fn := fun _ => fun
  | [d] => { results := [.lit (.bool false)], args := [d] }
  | _ => none }
def ReachEdgesWrongFalsely : Prop := reachEdgesRow.holds Try.pinned (OpenSpec.ofChange reachEdgesWrong)

/-- 'waymarklaw05.ReachPrefixes': WHATEVER THE INPUT: true; the input reads as it did. -/
def reachPrefixesSpec : ChangeSpec := { name := "reachPrefixes", fn := fun _ => fun
  | [d1, d2] => { results := [.lit (.bool true)], args := [d1, d2] }
  | _ => none }
def reachPrefixesRow : OpenClaim := { program := "ytplfilghhgdffaa", sum := "447240b71e31484a41c9b9c1d6e741fe25bf8ae071a0a03988f2165442af4881", func := "waymark/waymarklaw05.ReachPrefixes", spec := "reachPrefixes", unfollowed := true, recurses := true, apart := false }
def ReachPrefixesSaid : Prop := reachPrefixesRow.holds Try.pinned (OpenSpec.ofChange reachPrefixesSpec)

/-- ITS FALSE NEIGHBOUR: 'it returns false'. Refute it at one input. -/
def reachPrefixesWrong : ChangeSpec := { name := "reachPrefixes", fn := fun _ => fun
  | [d1, d2] => { results := [.lit (.bool false)], args := [d1, d2] }
  | _ => none }
def ReachPrefixesWrongFalsely : Prop := reachPrefixesRow.holds Try.pinned (OpenSpec.ofChange reachPrefixesWrong)

/-- 'waymarklaw05.ReachReads': WHATEVER THE INPUT: true; the input reads as it did. -/
def reachReadsSpec : ChangeSpec := { name := "reachReads", fn := fun _ => fun
  | [d1, d2] => { results := [.lit (.bool true)], args := [d1, d2] }
  | _ => none }
def reachReadsRow : OpenClaim := { program := "ytplfilghhgdffaa", sum := "447240b71e31484a41c9b9c1d6e741fe25bf8ae071a0a03988f2165442af4881", func := "waymark/waymarklaw05.ReachReads", spec := "reachReads", unfollowed := true, recurses := true, apart := false }
def ReachReadsSaid : Prop := reachReadsRow.holds Try.pinned (OpenSpec.ofChange reachReadsSpec)

/-- ITS FALSE NEIGHBOUR: 'it returns false'. Refute it at one input. -/
def reachReadsWrong : ChangeSpec := { name := "reachReads", fn := fun _ => fun
  | [d1, d2] => { results := [.lit (.bool false)], args := [d1, d2] }
  | _ => none }
def ReachReadsWrongFalsely : Prop := reachReadsRow.holds Try.pinned (OpenSpec.ofChange reachReadsWrong)

/-- 'waymarklaw05.ReachMore': WHATEVER THE INPUT: true; the input reads as it did. -/
def reachMoreSpec : ChangeSpec := { name := "reachMore", fn := fun _ => fun
  | [d1, d2] => { results := [.lit (.bool true)], args := [d1, d2] }
  | _ => none }
def reachMoreRow : OpenClaim := { program := "ytplfilghhgdffaa", sum := "447240b71e31484a41c9b9c1d6e741fe25bf8ae071a0a03988f2165442af4881", func := "waymark/waymarklaw05.ReachMore", spec := "reachMore", unfollowed := true, recurses := true, apart := false }
def ReachMoreSaid : Prop := reachMoreRow.holds Try.pinned (OpenSpec.ofChange reachMoreSpec)

/-- ITS FALSE NEIGHBOUR: 'it returns false'. Refute it at one input. -/
def reachMoreWrong : ChangeSpec := { name := "reachMore", fn := fun _ => fun
  | [d1, d2] => { results := [.lit (.bool false)], args := [d1, d2] }
  | _ => none }
def ReachMoreWrongFalsely : Prop := reachMoreRow.holds Try.pinned (OpenSpec.ofChange reachMoreWrong)

/-- 'waymarklaw05.ReachJoins': WHATEVER THE INPUT: true; the input reads as it did. -/
def reachJoinsSpec : ChangeSpec := { name := "reachJoins", fn := fun _ => fun
  | [d1, d2, d3, d4, d5] => { results := [.lit (.bool true)], args := [d1, d2, d3, d4, d5] }
  | _ => none }
def reachJoinsRow : OpenClaim := { program := "ytplfilghhgdffaa", sum := "447240b71e31484a41c9b9c1d6e741fe25bf8ae071a0a03988f2165442af4881", func := "waymark/waymarklaw05.ReachJoins", spec := "reachJoins", unfollowed := true, recurses := true, apart := false }
def ReachJoinsSaid : Prop := reachJoinsRow.holds Try.pinned (OpenSpec.ofChange reachJoinsSpec)

/-- ITS FALSE NEIGHBOUR: 'it returns false'. Refute it at one input. -/
def reachJoinsWrong : ChangeSpec := { name := "reachJoins", fn := fun _ => fun
  | [d1, d2, d3, d4, d5] => { results := [.lit (.bool false)], args := [d1, d2, d3, d4, d5] }
  | _ => none }
def ReachJoinsWrongFalsely : Prop := reachJoinsRow.holds Try.pinned (OpenSpec.ofChange reachJoinsWrong)

/-- 'waymarklaw05.ReachCuts': WHATEVER THE INPUT: true; the input reads as it did. -/
def reachCutsSpec : ChangeSpec := { name := "reachCuts", fn := fun _ => fun
  | [d1, d2] => { results := [.lit (.bool true)], args := [d1, d2] }
  | _ => none }
def reachCutsRow : OpenClaim := { program := "ytplfilghhgdffaa", sum := "447240b71e31484a41c9b9c1d6e741fe25bf8ae071a0a03988f2165442af4881", func := "waymark/waymarklaw05.ReachCuts", spec := "reachCuts", unfollowed := true, recurses := true, apart := false }
def ReachCutsSaid : Prop := reachCutsRow.holds Try.pinned (OpenSpec.ofChange reachCutsSpec)

/-- ITS FALSE NEIGHBOUR: 'it returns false'. Refute it at one input. -/
def reachCutsWrong : ChangeSpec := { name := "reachCuts", fn := fun _ => fun
  | [d1, d2] => { results := [.lit (.bool false)], args := [d1, d2] }
  | _ => none }
def ReachCutsWrongFalsely : Prop := reachCutsRow.holds Try.pinned (OpenSpec.ofChange reachCutsWrong)

/- THE SECOND FORM. 'bulk': how many values and letters a reading holds, each counted each time it is reached (what is shared counts as often as it is met; a slice's spare places count too). A statement '..UptoSaid' is the law's where the arguments, and the package variables that the reading takes, are together of bulk at most 1048576: NARROWER than '..Said'. Prove '..Said' where nothing that the law and all that it calls make is longer than what came in: it says more and counts as full. Else prove '..UptoSaid'. A law counts once. -/
mutual
def uptoBulk {H : Type} : DataW H → Nat
  | .lit (.string bytes) => bytes.length + 1
  | .lit _ => 1
  | .nil => 1
  | .ptr d => uptoBulk d + 1
  | .slice elems spare => uptoBulkAll elems + uptoBulkAll spare + 1
  | .agg parts => uptoBulkAll parts + 1
  | .iface _ d => uptoBulk d + 1
  | .map entries => uptoBulkEntries entries + 1
  | .held _ => 1
def uptoBulkAll {H : Type} : List (DataW H) → Nat
  | [] => 0
  | d :: r => uptoBulk d + uptoBulkAll r
def uptoBulkEntries {H : Type} : List (Lit × DataW H) → Nat
  | [] => 0
  | x :: r => uptoBulkEntry x + uptoBulkEntries r
def uptoBulkEntry {H : Type} : Lit × DataW H → Nat
  | (.string bytes, d) => bytes.length + uptoBulk d + 1
  | (_, d) => uptoBulk d + 1
 end
def uptoSmall : (H : Type) → List (DataW H) → Bool := fun _ ds => decide (uptoBulkAll ds ≤ 1048576)
def OpenSpec.upto (s : _root_.Go.ChangeSpec) : _root_.Go.OpenSpec := { _root_.Go.OpenSpec.ofChange s with cond := some uptoSmall }

/-- 'waymarklaw05.ReachEdges', WHERE WHAT IT READS IS OF BULK AT MOST 1048576: true; the input reads as it did. -/
def reachEdgesUptoRow : OpenClaim := { program := "ytplfilghhgdffaa", sum := "447240b71e31484a41c9b9c1d6e741fe25bf8ae071a0a03988f2165442af4881", func := "waymark/waymarklaw05.ReachEdges", spec := "reachEdges", unfollowed := true, recurses := true, apart := false, narrowed := true }
def ReachEdgesUptoSaid : Prop := reachEdgesUptoRow.holds Try.pinned (OpenSpec.upto reachEdgesSpec)

/-- 'waymarklaw05.ReachPrefixes', WHERE WHAT IT READS IS OF BULK AT MOST 1048576: true; the input reads as it did. -/
def reachPrefixesUptoRow : OpenClaim := { program := "ytplfilghhgdffaa", sum := "447240b71e31484a41c9b9c1d6e741fe25bf8ae071a0a03988f2165442af4881", func := "waymark/waymarklaw05.ReachPrefixes", spec := "reachPrefixes", unfollowed := true, recurses := true, apart := false, narrowed := true }
def ReachPrefixesUptoSaid : Prop := reachPrefixesUptoRow.holds Try.pinned (OpenSpec.upto reachPrefixesSpec)

/-- 'waymarklaw05.ReachReads', WHERE WHAT IT READS IS OF BULK AT MOST 1048576: true; the input reads as it did. -/
def reachReadsUptoRow : OpenClaim := { program := "ytplfilghhgdffaa", sum := "447240b71e31484a41c9b9c1d6e741fe25bf8ae071a0a03988f2165442af4881", func := "waymark/waymarklaw05.ReachReads", spec := "reachReads", unfollowed := true, recurses := true, apart := false, narrowed := true }
def ReachReadsUptoSaid : Prop := reachReadsUptoRow.holds Try.pinned (OpenSpec.upto reachReadsSpec)

/-- 'waymarklaw05.ReachMore', WHERE WHAT IT READS IS OF BULK AT MOST 1048576: true; the input reads as it did. -/
def reachMoreUptoRow : OpenClaim := { program := "ytplfilghhgdffaa", sum := "447240b71e31484a41c9b9c1d6e741fe25bf8ae071a0a03988f2165442af4881", func := "waymark/waymarklaw05.ReachMore", spec := "reachMore", unfollowed := true, recurses := true, apart := false, narrowed := true }
def ReachMoreUptoSaid : Prop := reachMoreUptoRow.holds Try.pinned (OpenSpec.upto reachMoreSpec)

/-- 'waymarklaw05.ReachJoins', WHERE WHAT IT READS IS OF BULK AT MOST 1048576: true; the input reads as it did. -/
def reachJoinsUptoRow : OpenClaim := { program := "ytplfilghhgdffaa", sum := "447240b71e31484a41c9b9c1d6e741fe25bf8ae071a0a03988f2165442af4881", func := "waymark/waymarklaw05.ReachJoins", spec := "reachJoins", unfollowed := true, recurses := true, apart := false, narrowed := true }
def ReachJoinsUptoSaid : Prop := reachJoinsUptoRow.holds Try.pinned (OpenSpec.upto reachJoinsSpec)

/-- 'waymarklaw05.ReachCuts', WHERE WHAT IT READS IS OF BULK AT MOST 1048576: true; the input reads as it did. -/
def reachCutsUptoRow : OpenClaim := { program := "ytplfilghhgdffaa", sum := "447240b71e31484a41c9b9c1d6e741fe25bf8ae071a0a03988f2165442af4881", func := "waymark/waymarklaw05.ReachCuts", spec := "reachCuts", unfollowed := true, recurses := true, apart := false, narrowed := true }
def ReachCutsUptoSaid : Prop := reachCutsUptoRow.holds Try.pinned (OpenSpec.upto reachCutsSpec)

end Rows
end Go.Proofs.Ytplfilghhgdffaa
