/-
  No cell of these rows narrows 'for every input' (looked for: loops, veiled, ifaces, maps, wideKeys, modest, calm, conditions, laid).
  DERIVED. THE GIVEN ROWS OF THIS SEAT. 4 by the template 'for every input the law returns true; each argument reads behind the call as it read before'; 0 by the template 'total and deterministic' (their statements: YtahflakanbhapaaTotals.lean).
  GIVEN WITH THE SEED: the statements are not yours to turn. If you find one false, say at which input.
  Laid BY PROGRAM, IN A SANDBOX (cutbox-rows.mjs): the forced cells as the released guide's own fill.sh prints them over the translation 46bb3eaf8dc50082… (all of the seat's roots in one cut). By AI agents, Wed Nov 11 2026. No macro, syntax, notation, axiom, sorry.
-/
import Derived.Test.YtahflakanbhapaaChecked
import GoSem.Claim
import GoSem.ClaimJoined
import GoSem.ClaimMapViews
import Derived.JoinedTies
import Derived.KernelRfl
namespace Go.Proofs.Ytahflakanbhapaa
/- THE CELL 'sum', in the pinned program and in every row, IS THE sha256 OF THE DUMP (.gsa) THAT YtahflakanbhapaaProg.lean LOADS. Nothing in Lean hashes anything: it is a label: what it is worth is what the hold of that sum in a sandbox is worth. -/
noncomputable def Try.pinned : Pinned := { name := "ytahflakanbhapaa", sum := "46bb3eaf8dc5008227fd989efabd9f73c283f7c3ce4097760c9811f991259b8d", checked := Try.checked }
namespace Rows
def none {H : Type} : Left H := { results := [], args := [] }

/-- 'waymarklaw11.DisElects': WHATEVER THE INPUT: true; the input reads as it did. -/
def disElectsSpec : ChangeSpec := { name := "disElects", fn := fun _ => fun
  | [d] => { results := [.lit (.bool true)], args := [d] }
  | _ => none }
def disElectsRow : OpenClaim := { program := "ytahflakanbhapaa", sum := "46bb3eaf8dc5008227fd989efabd9f73c283f7c3ce4097760c9811f991259b8d", func := "waymark/waymarklaw11.DisElects", spec := "disElects", inPlace := ["internal/bytealg.Compare"], unfollowed := true, recurses := true, apart := false }
def DisElectsSaid : Prop := disElectsRow.holds Try.pinned (OpenSpec.ofChange disElectsSpec)

/-- ITS FALSE NEIGHBOUR: 'it returns false'. Refute it at one input. -/
def disElectsWrong : ChangeSpec := { name := "disElects", fn := fun _ => fun
  | [d] => { results := [.lit (.bool false)], args := [d] }
  | _ => none }
def DisElectsWrongFalsely : Prop := disElectsRow.holds Try.pinned (OpenSpec.ofChange disElectsWrong)

/-- 'waymarklaw11.DisHears': WHATEVER THE INPUT: true; the input reads as it did. -/
def disHearsSpec : ChangeSpec := { name := "disHears", fn := fun _ => fun
  | [d1, d2] => { results := [.lit (.bool true)], args := [d1, d2] }
  | _ => none }
def disHearsRow : OpenClaim := { program := "ytahflakanbhapaa", sum := "46bb3eaf8dc5008227fd989efabd9f73c283f7c3ce4097760c9811f991259b8d", func := "waymark/waymarklaw11.DisHears", spec := "disHears", inPlace := ["internal/bytealg.Compare"], unfollowed := true, recurses := true, apart := false }
def DisHearsSaid : Prop := disHearsRow.holds Try.pinned (OpenSpec.ofChange disHearsSpec)

/-- ITS FALSE NEIGHBOUR: 'it returns false'. Refute it at one input. -/
def disHearsWrong : ChangeSpec := { name := "disHears", fn := fun _ => fun
  | [d1, d2] => { results := [.lit (.bool false)], args := [d1, d2] }
  | _ => none }
def DisHearsWrongFalsely : Prop := disHearsRow.holds Try.pinned (OpenSpec.ofChange disHearsWrong)

/-- 'waymarklaw11.DisAgrees': WHATEVER THE INPUT: true; the input reads as it did. -/
def disAgreesSpec : ChangeSpec := { name := "disAgrees", fn := fun _ => fun
  | [d1, d2, d3] => { results := [.lit (.bool true)], args := [d1, d2, d3] }
  | _ => none }
def disAgreesRow : OpenClaim := { program := "ytahflakanbhapaa", sum := "46bb3eaf8dc5008227fd989efabd9f73c283f7c3ce4097760c9811f991259b8d", func := "waymark/waymarklaw11.DisAgrees", spec := "disAgrees", inPlace := ["internal/bytealg.Compare"], unfollowed := true, recurses := true, apart := false }
def DisAgreesSaid : Prop := disAgreesRow.holds Try.pinned (OpenSpec.ofChange disAgreesSpec)

/-- ITS FALSE NEIGHBOUR: 'it returns false'. Refute it at one input. -/
def disAgreesWrong : ChangeSpec := { name := "disAgrees", fn := fun _ => fun
  | [d1, d2, d3] => { results := [.lit (.bool false)], args := [d1, d2, d3] }
  | _ => none }
def DisAgreesWrongFalsely : Prop := disAgreesRow.holds Try.pinned (OpenSpec.ofChange disAgreesWrong)

/-- 'waymarklaw11.DisTells': WHATEVER THE INPUT: true; the input reads as it did. -/
def disTellsSpec : ChangeSpec := { name := "disTells", fn := fun _ => fun
  | [d] => { results := [.lit (.bool true)], args := [d] }
  | _ => none }
def disTellsRow : OpenClaim := { program := "ytahflakanbhapaa", sum := "46bb3eaf8dc5008227fd989efabd9f73c283f7c3ce4097760c9811f991259b8d", func := "waymark/waymarklaw11.DisTells", spec := "disTells", inPlace := ["internal/bytealg.Compare"], unfollowed := true, recurses := true, apart := false }
def DisTellsSaid : Prop := disTellsRow.holds Try.pinned (OpenSpec.ofChange disTellsSpec)

/-- ITS FALSE NEIGHBOUR: 'it returns false'. Refute it at one input. -/
def disTellsWrong : ChangeSpec := { name := "disTells", fn := fun _ => fun
  | [d] => { results := [.lit (.bool false)], args := [d] }
  | _ => none }
def DisTellsWrongFalsely : Prop := disTellsRow.holds Try.pinned (OpenSpec.ofChange disTellsWrong)

/- THE SECOND FORM. 'bulk': how many values and letters a reading holds, each counted each time it is reached (what is shared counts as often as it is met; a slice's spare places count too). A statement '..UptoSaid' is the law's where the arguments, and the package variables that the reading takes, are together of bulk at most 1048576: NARROWER than '..Said'. Prove '..Said' where nothing that the law and all that it calls make is longer than what came in: it says more and counts as full. Else prove '..UptoSaid'. A law counts once. -/
mutual
def uptoBulk {H : Type} : DataW H → Nat
  | .lit (.string bytes) => bytes.length + 1
  | .lit _ => 1
  | .nil => 1
  | .ptr d => uptoBulk d + 1
  | .slice elems spare => uptoBulkAll elems + uptoBulkAll spare + 1
  | .agg parts => uptoBulkAll parts + 1
  | .iface _ d => uptoBulk d + 1
  | .map entries => uptoBulkEntries entries + 1
  | .held _ => 1
def uptoBulkAll {H : Type} : List (DataW H) → Nat
  | [] => 0
  | d :: r => uptoBulk d + uptoBulkAll r
def uptoBulkEntries {H : Type} : List (Lit × DataW H) → Nat
  | [] => 0
  | x :: r => uptoBulkEntry x + uptoBulkEntries r
def uptoBulkEntry {H : Type} : Lit × DataW H → Nat
  | (.string bytes, d) => bytes.length + uptoBulk d + 1
  | (_, d) => uptoBulk d + 1
 end
def uptoSmall : (H : Type) → List (DataW H) → Bool := fun _ ds => decide (uptoBulkAll ds ≤ 1048576)
def OpenSpec.upto (s : _root_.Go.ChangeSpec) : _root_.Go.OpenSpec := { _root_.Go.OpenSpec.ofChange s with cond := some uptoSmall }

/-- 'waymarklaw11.DisElects', WHERE WHAT IT READS IS OF BULK AT MOST 1048576: true; the input reads as it did. -/
def disElectsUptoRow : OpenClaim := { program := "ytahflakanbhapaa", sum := "46bb3eaf8dc5008227fd989efabd9f73c283f7c3ce4097760c9811f991259b8d", func := "waymark/waymarklaw11.DisElects", spec := "disElects", inPlace := ["internal/bytealg.Compare"], unfollowed := true, recurses := true, apart := false, narrowed := true }
def DisElectsUptoSaid : Prop := disElectsUptoRow.holds Try.pinned (OpenSpec.upto disElectsSpec)

/-- 'waymarklaw11.DisHears', WHERE WHAT IT READS IS OF BULK AT MOST 1048576: true; the input reads as it did. -/
def disHearsUptoRow : OpenClaim := { program := "ytahflakanbhapaa", sum := "46bb3eaf8dc5008227fd989efabd9f73c283f7c3ce4097760c9811f991259b8d", func := "waymark/waymarklaw11.DisHears", spec := "disHears", inPlace := ["internal/bytealg.Compare"], unfollowed := true, recurses := true, apart := false, narrowed := true }
def DisHearsUptoSaid : Prop := disHearsUptoRow.holds Try.pinned (OpenSpec.upto disHearsSpec)

/-- 'waymarklaw11.DisAgrees', WHERE WHAT IT READS IS OF BULK AT MOST 1048576: true; the input reads as it did. -/
def disAgreesUptoRow : OpenClaim := { program := "ytahflakanbhapaa", sum := "46bb3eaf8dc5008227fd989efabd9f73c283f7c3ce4097760c9811f991259b8d", func := "waymark/waymarklaw11.DisAgrees", spec := "disAgrees", inPlace := ["internal/bytealg.Compare"], unfollowed := true, recurses := true, apart := false, narrowed := true }
def DisAgreesUptoSaid : Prop := disAgreesUptoRow.holds Try.pinned (OpenSpec.upto disAgreesSpec)

/-- 'waymarklaw11.DisTells', WHERE WHAT IT READS IS OF BULK AT MOST 1048576: true; the input reads as it did. -/
def disTellsUptoRow : OpenClaim := { program := "ytahflakanbhapaa", sum := "46bb3eaf8dc5008227fd989efabd9f73c283f7c3ce4097760c9811f991259b8d", func := "waymark/waymarklaw11.DisTells", spec := "disTells", inPlace := ["internal/bytealg.Compare"], unfollowed := true, recurses := true, apart := false, narrowed := true }
def DisTellsUptoSaid : Prop := disTellsUptoRow.holds Try.pinned (OpenSpec.upto disTellsSpec)

end Rows
end Go.Proofs.Ytahflakanbhapaa
