/-
  No cell of these rows narrows 'for every input' (looked for: loops, veiled, ifaces, maps, wideKeys, modest, calm, conditions, laid).
  DERIVED. THE GIVEN ROWS OF THIS SEAT. 7 by the template 'for every input the law returns true; each argument reads behind the call as it read before'; 0 by the template 'total and deterministic' (their statements: YtfojfdlapekjoaaTotals.lean).
  GIVEN WITH THE SEED: the statements are not yours to turn. If you find one false, say at which input.
  Laid BY PROGRAM, IN A SANDBOX (cutbox-rows.mjs): the forced cells as the released guide's own fill.sh prints them over the translation 402212076e458b1c… (all of the seat's roots in one cut). By AI agents, Wed Nov 11 2026. No macro, syntax, notation, axiom, sorry.
-/
import Derived.Test.YtfojfdlapekjoaaChecked
import GoSem.Claim
import GoSem.ClaimJoined
import GoSem.ClaimMapViews
import Derived.JoinedTies
import Derived.KernelRfl
namespace Go.Proofs.Ytfojfdlapekjoaa
/- THE CELL 'sum', in the pinned program and in every row, IS THE sha256 OF THE DUMP (.gsa) THAT YtfojfdlapekjoaaProg.lean LOADS. Nothing in Lean hashes anything: it is a label: what it is worth is what the hold of that sum in a sandbox is worth. -/
noncomputable def Try.pinned : Pinned := { name := "ytfojfdlapekjoaa", sum := "402212076e458b1c9115fb0972409e6e333adae53ae4ec1c591fb636f8cb16c3", checked := Try.checked }
namespace Rows
def none {H : Type} : Left H := { results := [], args := [] }

/-- 'waymarklaw06.PduWrites': WHATEVER THE INPUT: true; the input reads as it did. -/
def pduWritesSpec : ChangeSpec := { name := "pduWrites", fn := fun _ => fun
  | [d] => { results := [.lit (.bool true)], args := [d] }
  | _ => none }
def pduWritesRow : OpenClaim := { program := "ytfojfdlapekjoaa", sum := "402212076e458b1c9115fb0972409e6e333adae53ae4ec1c591fb636f8cb16c3", func := "waymark/waymarklaw06.PduWrites", spec := "pduWrites", apart := false }
def PduWritesSaid : Prop := pduWritesRow.holds Try.pinned (OpenSpec.ofChange pduWritesSpec)

/-- ITS FALSE NEIGHBOUR: 'it returns false'. Refute it at one input. -/
def pduWritesWrong : ChangeSpec := { name := "pduWrites", fn := fun _ => fun
  | [d] => { results := [.lit (.bool false)], args := [d] }
  | _ => none }
def PduWritesWrongFalsely : Prop := pduWritesRow.holds Try.pinned (OpenSpec.ofChange pduWritesWrong)

/-- 'waymarklaw06.PduReads': WHATEVER THE INPUT: true; the input reads as it did. -/
def pduReadsSpec : ChangeSpec := { name := "pduReads", fn := fun _ => fun
  | [d] => { results := [.lit (.bool true)], args := [d] }
  | _ => none }
def pduReadsRow : OpenClaim := { program := "ytfojfdlapekjoaa", sum := "402212076e458b1c9115fb0972409e6e333adae53ae4ec1c591fb636f8cb16c3", func := "waymark/waymarklaw06.PduReads", spec := "pduReads", apart := false }
def PduReadsSaid : Prop := pduReadsRow.holds Try.pinned (OpenSpec.ofChange pduReadsSpec)

/-- ITS FALSE NEIGHBOUR: 'it returns false'. Refute it at one input. -/
def pduReadsWrong : ChangeSpec := { name := "pduReads", fn := fun _ => fun
  | [d] => { results := [.lit (.bool false)], args := [d] }
  | _ => none }
def PduReadsWrongFalsely : Prop := pduReadsRow.holds Try.pinned (OpenSpec.ofChange pduReadsWrong)

/-- 'waymarklaw06.PduEntries': WHATEVER THE INPUT: true; the input reads as it did. -/
def pduEntriesSpec : ChangeSpec := { name := "pduEntries", fn := fun _ => fun
  | [d1, d2] => { results := [.lit (.bool true)], args := [d1, d2] }
  | _ => none }
def pduEntriesRow : OpenClaim := { program := "ytfojfdlapekjoaa", sum := "402212076e458b1c9115fb0972409e6e333adae53ae4ec1c591fb636f8cb16c3", func := "waymark/waymarklaw06.PduEntries", spec := "pduEntries", apart := false }
def PduEntriesSaid : Prop := pduEntriesRow.holds Try.pinned (OpenSpec.ofChange pduEntriesSpec)

/-- ITS FALSE NEIGHBOUR: 'it returns false'. Refute it at one input. -/
def pduEntriesWrong : ChangeSpec := { name := "pduEntries", fn := fun _ => fun
  | [d1, d2] => { results := [.lit (.bool false)], args := [d1, d2] }
  | _ => none }
def PduEntriesWrongFalsely : Prop := pduEntriesRow.holds Try.pinned (OpenSpec.ofChange pduEntriesWrong)

/-- 'waymarklaw06.PduLife': WHATEVER THE INPUT: true; the input reads as it did. -/
def pduLifeSpec : ChangeSpec := { name := "pduLife", fn := fun _ => fun
  | [d1, d2] => { results := [.lit (.bool true)], args := [d1, d2] }
  | _ => none }
def pduLifeRow : OpenClaim := { program := "ytfojfdlapekjoaa", sum := "402212076e458b1c9115fb0972409e6e333adae53ae4ec1c591fb636f8cb16c3", func := "waymark/waymarklaw06.PduLife", spec := "pduLife", apart := false }
def PduLifeSaid : Prop := pduLifeRow.holds Try.pinned (OpenSpec.ofChange pduLifeSpec)

/-- ITS FALSE NEIGHBOUR: 'it returns false'. Refute it at one input. -/
def pduLifeWrong : ChangeSpec := { name := "pduLife", fn := fun _ => fun
  | [d1, d2] => { results := [.lit (.bool false)], args := [d1, d2] }
  | _ => none }
def PduLifeWrongFalsely : Prop := pduLifeRow.holds Try.pinned (OpenSpec.ofChange pduLifeWrong)

/-- 'waymarklaw06.PduTurned': WHATEVER THE INPUT: true; the input reads as it did. -/
def pduTurnedSpec : ChangeSpec := { name := "pduTurned", fn := fun _ => fun
  | [d1, d2, d3] => { results := [.lit (.bool true)], args := [d1, d2, d3] }
  | _ => none }
def pduTurnedRow : OpenClaim := { program := "ytfojfdlapekjoaa", sum := "402212076e458b1c9115fb0972409e6e333adae53ae4ec1c591fb636f8cb16c3", func := "waymark/waymarklaw06.PduTurned", spec := "pduTurned", apart := false }
def PduTurnedSaid : Prop := pduTurnedRow.holds Try.pinned (OpenSpec.ofChange pduTurnedSpec)

/-- ITS FALSE NEIGHBOUR: 'it returns false'. Refute it at one input. -/
def pduTurnedWrong : ChangeSpec := { name := "pduTurned", fn := fun _ => fun
  | [d1, d2, d3] => { results := [.lit (.bool false)], args := [d1, d2, d3] }
  | _ => none }
def PduTurnedWrongFalsely : Prop := pduTurnedRow.holds Try.pinned (OpenSpec.ofChange pduTurnedWrong)

/-- 'waymarklaw06.PduCut': WHATEVER THE INPUT: true; the input reads as it did. -/
def pduCutSpec : ChangeSpec := { name := "pduCut", fn := fun _ => fun
  | [d1, d2, d3] => { results := [.lit (.bool true)], args := [d1, d2, d3] }
  | _ => none }
def pduCutRow : OpenClaim := { program := "ytfojfdlapekjoaa", sum := "402212076e458b1c9115fb0972409e6e333adae53ae4ec1c591fb636f8cb16c3", func := "waymark/waymarklaw06.PduCut", spec := "pduCut", apart := false }
def PduCutSaid : Prop := pduCutRow.holds Try.pinned (OpenSpec.ofChange pduCutSpec)

/-- ITS FALSE NEIGHBOUR: 'it returns false'. Refute it at one input. -/
def pduCutWrong : ChangeSpec := { name := "pduCut", fn := fun _ => fun
  | [d1, d2, d3] => { results := [.lit (.bool false)], args := [d1, d2, d3] }
  | _ => none }
def PduCutWrongFalsely : Prop := pduCutRow.holds Try.pinned (OpenSpec.ofChange pduCutWrong)

/-- 'waymarklaw06.PduFields': WHATEVER THE INPUT: true; the input reads as it did. -/
def pduFieldsSpec : ChangeSpec := { name := "pduFields", fn := fun _ => fun
  | [d1, d2] => { results := [.lit (.bool true)], args := [d1, d2] }
  | _ => none }
def pduFieldsRow : OpenClaim := { program := "ytfojfdlapekjoaa", sum := "402212076e458b1c9115fb0972409e6e333adae53ae4ec1c591fb636f8cb16c3", func := "waymark/waymarklaw06.PduFields", spec := "pduFields", apart := false }
def PduFieldsSaid : Prop := pduFieldsRow.holds Try.pinned (OpenSpec.ofChange pduFieldsSpec)

/-- ITS FALSE NEIGHBOUR: 'it returns false'. Refute it at one input. -/
def pduFieldsWrong : ChangeSpec := { name := "pduFields", fn := fun _ => fun
  | [d1, d2] => { results := [.lit (.bool false)], args := [d1, d2] }
  | _ => none }
def PduFieldsWrongFalsely : Prop := pduFieldsRow.holds Try.pinned (OpenSpec.ofChange pduFieldsWrong)

/- THE SECOND FORM. 'bulk': how many values and letters a reading holds, each counted each time it is reached (what is shared counts as often as it is met; a slice's spare places count too). A statement '..UptoSaid' is the law's where the arguments, and the package variables that the reading takes, are together of bulk at most 1048576: NARROWER than '..Said'. Prove '..Said' where nothing that the law and all that it calls make is longer than what came in: it says more and counts as full. Else prove '..UptoSaid'. A law counts once. -/
mutual
def uptoBulk {H : Type} : DataW H → Nat
  | .lit (.string bytes) => bytes.length + 1
  | .lit _ => 1
  | .nil => 1
  | .ptr d => uptoBulk d + 1
  | .slice elems spare => uptoBulkAll elems + uptoBulkAll spare + 1
  | .agg parts => uptoBulkAll parts + 1
  | .iface _ d => uptoBulk d + 1
  | .map entries => uptoBulkEntries entries + 1
  | .held _ => 1
def uptoBulkAll {H : Type} : List (DataW H) → Nat
  | [] => 0
  | d :: r => uptoBulk d + uptoBulkAll r
def uptoBulkEntries {H : Type} : List (Lit × DataW H) → Nat
  | [] => 0
  | x :: r => uptoBulkEntry x + uptoBulkEntries r
def uptoBulkEntry {H : Type} : Lit × DataW H → Nat
  | (.string bytes, d) => bytes.length + uptoBulk d + 1
  | (_, d) => uptoBulk d + 1
 end
def uptoSmall : (H : Type) → List (DataW H) → Bool := fun _ ds => decide (uptoBulkAll ds ≤ 1048576)
def OpenSpec.upto (s : _root_.Go.ChangeSpec) : _root_.Go.OpenSpec := { _root_.Go.OpenSpec.ofChange s with cond := some uptoSmall }

/-- 'waymarklaw06.PduWrites', WHERE WHAT IT READS IS OF BULK AT MOST 1048576: true; the input reads as it did. -/
def pduWritesUptoRow : OpenClaim := { program := "ytfojfdlapekjoaa", sum := "402212076e458b1c9115fb0972409e6e333adae53ae4ec1c591fb636f8cb16c3", func := "waymark/waymarklaw06.PduWrites", spec := "pduWrites", apart := false, narrowed := true }
def PduWritesUptoSaid : Prop := pduWritesUptoRow.holds Try.pinned (OpenSpec.upto pduWritesSpec)

/-- 'waymarklaw06.PduReads', WHERE WHAT IT READS IS OF BULK AT MOST 1048576: true; the input reads as it did. -/
def pduReadsUptoRow : OpenClaim := { program := "ytfojfdlapekjoaa", sum := "402212076e458b1c9115fb0972409e6e333adae53ae4ec1c591fb636f8cb16c3", func := "waymark/waymarklaw06.PduReads", spec := "pduReads", apart := false, narrowed := true }
def PduReadsUptoSaid : Prop := pduReadsUptoRow.holds Try.pinned (OpenSpec.upto pduReadsSpec)

/-- 'waymarklaw06.PduEntries', WHERE WHAT IT READS IS OF BULK AT MOST 1048576: true; the input reads as it did. -/
def pduEntriesUptoRow : OpenClaim := { program := "ytfojfdlapekjoaa", sum := "402212076e458b1c9115fb0972409e6e333adae53ae4ec1c591fb636f8cb16c3", func := "waymark/waymarklaw06.PduEntries", spec := "pduEntries", apart := false, narrowed := true }
def PduEntriesUptoSaid : Prop := pduEntriesUptoRow.holds Try.pinned (OpenSpec.upto pduEntriesSpec)

/-- 'waymarklaw06.PduLife', WHERE WHAT IT READS IS OF BULK AT MOST 1048576: true; the input reads as it did. -/
def pduLifeUptoRow : OpenClaim := { program := "ytfojfdlapekjoaa", sum := "402212076e458b1c9115fb0972409e6e333adae53ae4ec1c591fb636f8cb16c3", func := "waymark/waymarklaw06.PduLife", spec := "pduLife", apart := false, narrowed := true }
def PduLifeUptoSaid : Prop := pduLifeUptoRow.holds Try.pinned (OpenSpec.upto pduLifeSpec)

/-- 'waymarklaw06.PduTurned', WHERE WHAT IT READS IS OF BULK AT MOST 1048576: true; the input reads as it did. -/
def pduTurnedUptoRow : OpenClaim := { program := "ytfojfdlapekjoaa", sum := "402212076e458b1c9115fb0972409e6e333adae53ae4ec1c591fb636f8cb16c3", func := "waymark/waymarklaw06.PduTurned", spec := "pduTurned", apart := false, narrowed := true }
def PduTurnedUptoSaid : Prop := pduTurnedUptoRow.holds Try.pinned (OpenSpec.upto pduTurnedSpec)

/-- 'waymarklaw06.PduCut', WHERE WHAT IT READS IS OF BULK AT MOST 1048576: true; the input reads as it did. -/
def pduCutUptoRow : OpenClaim := { program := "ytfojfdlapekjoaa", sum := "402212076e458b1c9115fb0972409e6e333adae53ae4ec1c591fb636f8cb16c3", func := "waymark/waymarklaw06.PduCut", spec := "pduCut", apart := false, narrowed := true }
def PduCutUptoSaid : Prop := pduCutUptoRow.holds Try.pinned (OpenSpec.upto pduCutSpec)

/-- 'waymarklaw06.PduFields', WHERE WHAT IT READS IS OF BULK AT MOST 1048576: true; the input reads as it did. -/
def pduFieldsUptoRow : OpenClaim := { program := "ytfojfdlapekjoaa", sum := "402212076e458b1c9115fb0972409e6e333adae53ae4ec1c591fb636f8cb16c3", func := "waymark/waymarklaw06.PduFields", spec := "pduFields", apart := false, narrowed := true }
def PduFieldsUptoSaid : Prop := pduFieldsUptoRow.holds Try.pinned (OpenSpec.upto pduFieldsSpec)

end Rows
end Go.Proofs.Ytfojfdlapekjoaa
