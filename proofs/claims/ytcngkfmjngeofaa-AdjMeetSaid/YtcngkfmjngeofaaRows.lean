/-
  No cell of these rows narrows 'for every input' (looked for: loops, veiled, ifaces, maps, wideKeys, modest, calm, conditions, laid).
  DERIVED. THE GIVEN ROWS OF THIS SEAT. 7 by the template 'for every input the law returns true; each argument reads behind the call as it read before'; 0 by the template 'total and deterministic' (their statements: YtcngkfmjngeofaaTotals.lean).
  GIVEN WITH THE SEED: the statements are not yours to turn. If you find one false, say at which input.
  Laid BY PROGRAM, IN A SANDBOX (cutbox-rows.mjs): the forced cells as the released guide's own fill.sh prints them over the translation 8469b9bea3b9f3d0… (all of the seat's roots in one cut). By AI agents, Wed Nov 11 2026. No macro, syntax, notation, axiom, sorry.
-/
import Derived.Test.YtcngkfmjngeofaaChecked
import GoSem.Claim
import GoSem.ClaimJoined
import GoSem.ClaimMapViews
import Derived.JoinedTies
import Derived.KernelRfl
namespace Go.Proofs.Ytcngkfmjngeofaa
/- THE CELL 'sum', in the pinned program and in every row, IS THE sha256 OF THE DUMP (.gsa) THAT YtcngkfmjngeofaaProg.lean LOADS. Nothing in Lean hashes anything: it is a label: what it is worth is what the hold of that sum in a sandbox is worth. -/
noncomputable def Try.pinned : Pinned := { name := "ytcngkfmjngeofaa", sum := "8469b9bea3b9f3d0a7d901cb82421a31c17af9714ad0b36c1c1e24b6e8d000f7", checked := Try.checked }
namespace Rows
def none {H : Type} : Left H := { results := [], args := [] }

/-- 'waymarklaw10.AdjSteps': WHATEVER THE INPUT: true; the input reads as it did. -/
def adjStepsSpec : ChangeSpec := { name := "adjSteps", fn := fun _ => fun
  | [d1, d2, d3, d4] => { results := [.lit (.bool true)], args := [d1, d2, d3, d4] }
  | _ => none }
def adjStepsRow : OpenClaim := { program := "ytcngkfmjngeofaa", sum := "8469b9bea3b9f3d0a7d901cb82421a31c17af9714ad0b36c1c1e24b6e8d000f7", func := "waymark/waymarklaw10.AdjSteps", spec := "adjSteps", apart := false }
def AdjStepsSaid : Prop := adjStepsRow.holds Try.pinned (OpenSpec.ofChange adjStepsSpec)

/-- ITS FALSE NEIGHBOUR: 'it returns false'. Refute it at one input. -/
def adjStepsWrong : ChangeSpec := { name := "adjSteps", fn := fun _ => fun
  | [d1, d2, d3, d4] => { results := [.lit (.bool false)], args := [d1, d2, d3, d4] }
  | _ => none }
def AdjStepsWrongFalsely : Prop := adjStepsRow.holds Try.pinned (OpenSpec.ofChange adjStepsWrong)

/-- 'waymarklaw10.AdjTells': WHATEVER THE INPUT: true; the input reads as it did. -/
def adjTellsSpec : ChangeSpec := { name := "adjTells", fn := fun _ => fun
  | [d1, d2, d3, d4] => { results := [.lit (.bool true)], args := [d1, d2, d3, d4] }
  | _ => none }
def adjTellsRow : OpenClaim := { program := "ytcngkfmjngeofaa", sum := "8469b9bea3b9f3d0a7d901cb82421a31c17af9714ad0b36c1c1e24b6e8d000f7", func := "waymark/waymarklaw10.AdjTells", spec := "adjTells", apart := false }
def AdjTellsSaid : Prop := adjTellsRow.holds Try.pinned (OpenSpec.ofChange adjTellsSpec)

/-- ITS FALSE NEIGHBOUR: 'it returns false'. Refute it at one input. -/
def adjTellsWrong : ChangeSpec := { name := "adjTells", fn := fun _ => fun
  | [d1, d2, d3, d4] => { results := [.lit (.bool false)], args := [d1, d2, d3, d4] }
  | _ => none }
def AdjTellsWrongFalsely : Prop := adjTellsRow.holds Try.pinned (OpenSpec.ofChange adjTellsWrong)

/-- 'waymarklaw10.AdjMeet': WHATEVER THE INPUT: true; the input reads as it did. -/
def adjMeetSpec : ChangeSpec := { name := "adjMeet", fn := fun _ => fun
  | [d1, d2, d3, d4, d5, d6] => { results := [.lit (.bool true)], args := [d1, d2, d3, d4, d5, d6] }
  | _ => none }
def adjMeetRow : OpenClaim := { program := "ytcngkfmjngeofaa", sum := "8469b9bea3b9f3d0a7d901cb82421a31c17af9714ad0b36c1c1e24b6e8d000f7", func := "waymark/waymarklaw10.AdjMeet", spec := "adjMeet", apart := false }
def AdjMeetSaid : Prop := adjMeetRow.holds Try.pinned (OpenSpec.ofChange adjMeetSpec)

/-- ITS FALSE NEIGHBOUR: 'it returns false'. Refute it at one input. -/
def adjMeetWrong : ChangeSpec := { name := "adjMeet", fn := fun _ => fun
  | [d1, d2, d3, d4, d5, d6] => { results := [.lit (.bool false)], args := [d1, d2, d3, d4, d5, d6] }
  | _ => none }
def AdjMeetWrongFalsely : Prop := adjMeetRow.holds Try.pinned (OpenSpec.ofChange adjMeetWrong)

/-- 'waymarklaw10.AdjApart': WHATEVER THE INPUT: true; the input reads as it did. -/
def adjApartSpec : ChangeSpec := { name := "adjApart", fn := fun _ => fun
  | [d1, d2, d3, d4] => { results := [.lit (.bool true)], args := [d1, d2, d3, d4] }
  | _ => none }
def adjApartRow : OpenClaim := { program := "ytcngkfmjngeofaa", sum := "8469b9bea3b9f3d0a7d901cb82421a31c17af9714ad0b36c1c1e24b6e8d000f7", func := "waymark/waymarklaw10.AdjApart", spec := "adjApart", apart := false }
def AdjApartSaid : Prop := adjApartRow.holds Try.pinned (OpenSpec.ofChange adjApartSpec)

/-- ITS FALSE NEIGHBOUR: 'it returns false'. Refute it at one input. -/
def adjApartWrong : ChangeSpec := { name := "adjApart", fn := fun _ => fun
  | [d1, d2, d3, d4] => { results := [.lit (.bool false)], args := [d1, d2, d3, d4] }
  | _ => none }
def AdjApartWrongFalsely : Prop := adjApartRow.holds Try.pinned (OpenSpec.ofChange adjApartWrong)

/-- 'waymarklaw10.AdjTwice': WHATEVER THE INPUT: true; the input reads as it did. -/
def adjTwiceSpec : ChangeSpec := { name := "adjTwice", fn := fun _ => fun
  | [d1, d2, d3, d4] => { results := [.lit (.bool true)], args := [d1, d2, d3, d4] }
  | _ => none }
def adjTwiceRow : OpenClaim := { program := "ytcngkfmjngeofaa", sum := "8469b9bea3b9f3d0a7d901cb82421a31c17af9714ad0b36c1c1e24b6e8d000f7", func := "waymark/waymarklaw10.AdjTwice", spec := "adjTwice", apart := false }
def AdjTwiceSaid : Prop := adjTwiceRow.holds Try.pinned (OpenSpec.ofChange adjTwiceSpec)

/-- ITS FALSE NEIGHBOUR: 'it returns false'. Refute it at one input. -/
def adjTwiceWrong : ChangeSpec := { name := "adjTwice", fn := fun _ => fun
  | [d1, d2, d3, d4] => { results := [.lit (.bool false)], args := [d1, d2, d3, d4] }
  | _ => none }
def AdjTwiceWrongFalsely : Prop := adjTwiceRow.holds Try.pinned (OpenSpec.ofChange adjTwiceWrong)

/-- 'waymarklaw10.AdjLevels': WHATEVER THE INPUT: true; the input reads as it did. -/
def adjLevelsSpec : ChangeSpec := { name := "adjLevels", fn := fun _ => fun
  | [d1, d2, d3] => { results := [.lit (.bool true)], args := [d1, d2, d3] }
  | _ => none }
def adjLevelsRow : OpenClaim := { program := "ytcngkfmjngeofaa", sum := "8469b9bea3b9f3d0a7d901cb82421a31c17af9714ad0b36c1c1e24b6e8d000f7", func := "waymark/waymarklaw10.AdjLevels", spec := "adjLevels", apart := false }
def AdjLevelsSaid : Prop := adjLevelsRow.holds Try.pinned (OpenSpec.ofChange adjLevelsSpec)

/-- ITS FALSE NEIGHBOUR: 'it returns false'. Refute it at one input. -/
def adjLevelsWrong : ChangeSpec := { name := "adjLevels", fn := fun _ => fun
  | [d1, d2, d3] => { results := [.lit (.bool false)], args := [d1, d2, d3] }
  | _ => none }
def AdjLevelsWrongFalsely : Prop := adjLevelsRow.holds Try.pinned (OpenSpec.ofChange adjLevelsWrong)

/-- 'waymarklaw10.AdjHolds': WHATEVER THE INPUT: true; the input reads as it did. -/
def adjHoldsSpec : ChangeSpec := { name := "adjHolds", fn := fun _ => fun
  | [d1, d2, d3] => { results := [.lit (.bool true)], args := [d1, d2, d3] }
  | _ => none }
def adjHoldsRow : OpenClaim := { program := "ytcngkfmjngeofaa", sum := "8469b9bea3b9f3d0a7d901cb82421a31c17af9714ad0b36c1c1e24b6e8d000f7", func := "waymark/waymarklaw10.AdjHolds", spec := "adjHolds", apart := false }
def AdjHoldsSaid : Prop := adjHoldsRow.holds Try.pinned (OpenSpec.ofChange adjHoldsSpec)

/-- ITS FALSE NEIGHBOUR: 'it returns false'. Refute it at one input. -/
def adjHoldsWrong : ChangeSpec := { name := "adjHolds", fn := fun _ => fun
  | [d1, d2, d3] => { results := [.lit (.bool false)], args := [d1, d2, d3] }
  | _ => none }
def AdjHoldsWrongFalsely : Prop := adjHoldsRow.holds Try.pinned (OpenSpec.ofChange adjHoldsWrong)

/- THE SECOND FORM. 'bulk': how many values and letters a reading holds, each counted each time it is reached (what is shared counts as often as it is met; a slice's spare places count too). A statement '..UptoSaid' is the law's where the arguments, and the package variables that the reading takes, are together of bulk at most 1048576: NARROWER than '..Said'. Prove '..Said' where nothing that the law and all that it calls make is longer than what came in: it says more and counts as full. Else prove '..UptoSaid'. A law counts once. -/
mutual
def uptoBulk {H : Type} : DataW H → Nat
  | .lit (.string bytes) => bytes.length + 1
  | .lit _ => 1
  | .nil => 1
  | .ptr d => uptoBulk d + 1
  | .slice elems spare => uptoBulkAll elems + uptoBulkAll spare + 1
  | .agg parts => uptoBulkAll parts + 1
  | .iface _ d => uptoBulk d + 1
  | .map entries => uptoBulkEntries entries + 1
  | .held _ => 1
def uptoBulkAll {H : Type} : List (DataW H) → Nat
  | [] => 0
  | d :: r => uptoBulk d + uptoBulkAll r
def uptoBulkEntries {H : Type} : List (Lit × DataW H) → Nat
  | [] => 0
  | x :: r => uptoBulkEntry x + uptoBulkEntries r
def uptoBulkEntry {H : Type} : Lit × DataW H → Nat
  | (.string bytes, d) => bytes.length + uptoBulk d + 1
  | (_, d) => uptoBulk d + 1
 end
def uptoSmall : (H : Type) → List (DataW H) → Bool := fun _ ds => decide (uptoBulkAll ds ≤ 1048576)
def OpenSpec.upto (s : _root_.Go.ChangeSpec) : _root_.Go.OpenSpec := { _root_.Go.OpenSpec.ofChange s with cond := some uptoSmall }

/-- 'waymarklaw10.AdjSteps', WHERE WHAT IT READS IS OF BULK AT MOST 1048576: true; the input reads as it did. -/
def adjStepsUptoRow : OpenClaim := { program := "ytcngkfmjngeofaa", sum := "8469b9bea3b9f3d0a7d901cb82421a31c17af9714ad0b36c1c1e24b6e8d000f7", func := "waymark/waymarklaw10.AdjSteps", spec := "adjSteps", apart := false, narrowed := true }
def AdjStepsUptoSaid : Prop := adjStepsUptoRow.holds Try.pinned (OpenSpec.upto adjStepsSpec)

/-- 'waymarklaw10.AdjTells', WHERE WHAT IT READS IS OF BULK AT MOST 1048576: true; the input reads as it did. -/
def adjTellsUptoRow : OpenClaim := { program := "ytcngkfmjngeofaa", sum := "8469b9bea3b9f3d0a7d901cb82421a31c17af9714ad0b36c1c1e24b6e8d000f7", func := "waymark/waymarklaw10.AdjTells", spec := "adjTells", apart := false, narrowed := true }
def AdjTellsUptoSaid : Prop := adjTellsUptoRow.holds Try.pinned (OpenSpec.upto adjTellsSpec)

/-- 'waymarklaw10.AdjMeet', WHERE WHAT IT READS IS OF BULK AT MOST 1048576: true; the input reads as it did. -/
def adjMeetUptoRow : OpenClaim := { program := "ytcngkfmjngeofaa", sum := "8469b9bea3b9f3d0a7d901cb82421a31c17af9714ad0b36c1c1e24b6e8d000f7", func := "waymark/waymarklaw10.AdjMeet", spec := "adjMeet", apart := false, narrowed := true }
def AdjMeetUptoSaid : Prop := adjMeetUptoRow.holds Try.pinned (OpenSpec.upto adjMeetSpec)

/-- 'waymarklaw10.AdjApart', WHERE WHAT IT READS IS OF BULK AT MOST 1048576: true; the input reads as it did. -/
def adjApartUptoRow : OpenClaim := { program := "ytcngkfmjngeofaa", sum := "8469b9bea3b9f3d0a7d901cb82421a31c17af9714ad0b36c1c1e24b6e8d000f7", func := "waymark/waymarklaw10.AdjApart", spec := "adjApart", apart := false, narrowed := true }
def AdjApartUptoSaid : Prop := adjApartUptoRow.holds Try.pinned (OpenSpec.upto adjApartSpec)

/-- 'waymarklaw10.AdjTwice', WHERE WHAT IT READS IS OF BULK AT MOST 1048576: true; the input reads as it did. -/
def adjTwiceUptoRow : OpenClaim := { program := "ytcngkfmjngeofaa", sum := "8469b9bea3b9f3d0a7d901cb82421a31c17af9714ad0b36c1c1e24b6e8d000f7", func := "waymark/waymarklaw10.AdjTwice", spec := "adjTwice", apart := false, narrowed := true }
def AdjTwiceUptoSaid : Prop := adjTwiceUptoRow.holds Try.pinned (OpenSpec.upto adjTwiceSpec)

/-- 'waymarklaw10.AdjLevels', WHERE WHAT IT READS IS OF BULK AT MOST 1048576: true; the input reads as it did. -/
def adjLevelsUptoRow : OpenClaim := { program := "ytcngkfmjngeofaa", sum := "8469b9bea3b9f3d0a7d901cb82421a31c17af9714ad0b36c1c1e24b6e8d000f7", func := "waymark/waymarklaw10.AdjLevels", spec := "adjLevels", apart := false, narrowed := true }
def AdjLevelsUptoSaid : Prop := adjLevelsUptoRow.holds Try.pinned (OpenSpec.upto adjLevelsSpec)

/-- 'waymarklaw10.AdjHolds', WHERE WHAT IT READS IS OF BULK AT MOST 1048576: true; the input reads as it did. -/
def adjHoldsUptoRow : OpenClaim := { program := "ytcngkfmjngeofaa", sum := "8469b9bea3b9f3d0a7d901cb82421a31c17af9714ad0b36c1c1e24b6e8d000f7", func := "waymark/waymarklaw10.AdjHolds", spec := "adjHolds", apart := false, narrowed := true }
def AdjHoldsUptoSaid : Prop := adjHoldsUptoRow.holds Try.pinned (OpenSpec.upto adjHoldsSpec)

end Rows
end Go.Proofs.Ytcngkfmjngeofaa
