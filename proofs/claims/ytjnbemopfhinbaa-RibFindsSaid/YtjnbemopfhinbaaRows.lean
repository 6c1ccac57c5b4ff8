/-
  No cell of these rows narrows 'for every input' (looked for: loops, veiled, ifaces, maps, wideKeys, modest, calm, conditions, laid).
  DERIVED. THE GIVEN ROWS OF THIS SEAT. 9 by the template 'for every input the law returns true; each argument reads behind the call as it read before'; 0 by the template 'total and deterministic' (their statements: YtjnbemopfhinbaaTotals.lean).
  GIVEN WITH THE SEED: the statements are not yours to turn. If you find one false, say at which input.
  Laid BY PROGRAM, IN A SANDBOX (cutbox-rows.mjs): the forced cells as the released guide's own fill.sh prints them over the translation 730babf3359c23f3… (all of the seat's roots in one cut). By AI agents, Wed Nov 11 2026. No macro, syntax, notation, axiom, sorry.
-/
import Derived.Test.YtjnbemopfhinbaaChecked
import GoSem.Claim
import GoSem.ClaimJoined
import GoSem.ClaimMapViews
import Derived.JoinedTies
import Derived.KernelRfl
namespace Go.Proofs.Ytjnbemopfhinbaa
/- THE CELL 'sum', in the pinned program and in every row, IS THE sha256 OF THE DUMP (.gsa) THAT YtjnbemopfhinbaaProg.lean LOADS. Nothing in Lean hashes anything: it is a label: what it is worth is what the hold of that sum in a sandbox is worth. -/
noncomputable def Try.pinned : Pinned := { name := "ytjnbemopfhinbaa", sum := "730babf3359c23f328fda05f54b57dce26f56a40e1e4591c51b3efd335d2791c", checked := Try.checked }
namespace Rows
def none {H : Type} : Left H := { results := [], args := [] }

/-- 'waymarklaw17.TriePlays': WHATEVER THE INPUT: true; the input reads as it did. -/
def triePlaysSpec : ChangeSpec := { name := "triePlays", fn := fun _ => fun
  | [d1, d2, d3] => { results := [.lit (.bool true)], args := [d1, d2, d3] }
  | _ => none }
def triePlaysRow : OpenClaim := { program := "ytjnbemopfhinbaa", sum := "730babf3359c23f328fda05f54b57dce26f56a40e1e4591c51b3efd335d2791c", func := "waymark/waymarklaw17.TriePlays", spec := "triePlays", recurses := true, apart := false }
def TriePlaysSaid : Prop := triePlaysRow.holds Try.pinned (OpenSpec.ofChange triePlaysSpec)

/-- ITS FALSE NEIGHBOUR: 'it returns false'. Refute it at one input. -/
def triePlaysWrong : ChangeSpec := { name := "triePlays", fn := fun _ => fun
  | [d1, d2, d3] => { results := [.lit (.bool false)], args := [d1, d2, d3] }
  | _ => none }
def TriePlaysWrongFalsely : Prop := triePlaysRow.holds Try.pinned (OpenSpec.ofChange triePlaysWrong)

/-- 'waymarklaw17.TrieNil': WHATEVER THE INPUT: true; the input reads as it did. -/
def trieNilSpec : ChangeSpec := { name := "trieNil", fn := fun _ => fun
  | [d1, d2, d3] => { results := [.lit (.bool true)], args := [d1, d2, d3] }
  | _ => none }
def trieNilRow : OpenClaim := { program := "ytjnbemopfhinbaa", sum := "730babf3359c23f328fda05f54b57dce26f56a40e1e4591c51b3efd335d2791c", func := "waymark/waymarklaw17.TrieNil", spec := "trieNil", recurses := true, apart := false }
def TrieNilSaid : Prop := trieNilRow.holds Try.pinned (OpenSpec.ofChange trieNilSpec)

/-- ITS FALSE NEIGHBOUR: 'it returns false'. Refute it at one input. -/
def trieNilWrong : ChangeSpec := { name := "trieNil", fn := fun _ => fun
  | [d1, d2, d3] => { results := [.lit (.bool false)], args := [d1, d2, d3] }
  | _ => none }
def TrieNilWrongFalsely : Prop := trieNilRow.holds Try.pinned (OpenSpec.ofChange trieNilWrong)

/-- 'waymarklaw17.TrieLongest': WHATEVER THE INPUT: true; the input reads as it did. -/
def trieLongestSpec : ChangeSpec := { name := "trieLongest", fn := fun _ => fun
  | [d1, d2, d3] => { results := [.lit (.bool true)], args := [d1, d2, d3] }
  | _ => none }
def trieLongestRow : OpenClaim := { program := "ytjnbemopfhinbaa", sum := "730babf3359c23f328fda05f54b57dce26f56a40e1e4591c51b3efd335d2791c", func := "waymark/waymarklaw17.TrieLongest", spec := "trieLongest", recurses := true, apart := false }
def TrieLongestSaid : Prop := trieLongestRow.holds Try.pinned (OpenSpec.ofChange trieLongestSpec)

/-- ITS FALSE NEIGHBOUR: 'it returns false'. Refute it at one input. -/
def trieLongestWrong : ChangeSpec := { name := "trieLongest", fn := fun _ => fun
  | [d1, d2, d3] => { results := [.lit (.bool false)], args := [d1, d2, d3] }
  | _ => none }
def TrieLongestWrongFalsely : Prop := trieLongestRow.holds Try.pinned (OpenSpec.ofChange trieLongestWrong)

/-- 'waymarklaw17.TrieForgets': WHATEVER THE INPUT: true; the input reads as it did. -/
def trieForgetsSpec : ChangeSpec := { name := "trieForgets", fn := fun _ => fun
  | [d1, d2, d3, d4] => { results := [.lit (.bool true)], args := [d1, d2, d3, d4] }
  | _ => none }
def trieForgetsRow : OpenClaim := { program := "ytjnbemopfhinbaa", sum := "730babf3359c23f328fda05f54b57dce26f56a40e1e4591c51b3efd335d2791c", func := "waymark/waymarklaw17.TrieForgets", spec := "trieForgets", recurses := true, apart := false }
def TrieForgetsSaid : Prop := trieForgetsRow.holds Try.pinned (OpenSpec.ofChange trieForgetsSpec)

/-- ITS FALSE NEIGHBOUR: 'it returns false'. Refute it at one input. -/
def trieForgetsWrong : ChangeSpec := { name := "trieForgets", fn := fun _ => fun
  | [d1, d2, d3, d4] => { results := [.lit (.bool false)], args := [d1, d2, d3, d4] }
  | _ => none }
def TrieForgetsWrongFalsely : Prop := trieForgetsRow.holds Try.pinned (OpenSpec.ofChange trieForgetsWrong)

/-- 'waymarklaw17.TrieOrder': WHATEVER THE INPUT: true; the input reads as it did. -/
def trieOrderSpec : ChangeSpec := { name := "trieOrder", fn := fun _ => fun
  | [d1, d2, d3, d4] => { results := [.lit (.bool true)], args := [d1, d2, d3, d4] }
  | _ => none }
def trieOrderRow : OpenClaim := { program := "ytjnbemopfhinbaa", sum := "730babf3359c23f328fda05f54b57dce26f56a40e1e4591c51b3efd335d2791c", func := "waymark/waymarklaw17.TrieOrder", spec := "trieOrder", inPlace := ["internal/bytealg.Compare"], recurses := true, apart := false }
def TrieOrderSaid : Prop := trieOrderRow.holds Try.pinned (OpenSpec.ofChange trieOrderSpec)

/-- ITS FALSE NEIGHBOUR: 'it returns false'. Refute it at one input. -/
def trieOrderWrong : ChangeSpec := { name := "trieOrder", fn := fun _ => fun
  | [d1, d2, d3, d4] => { results := [.lit (.bool false)], args := [d1, d2, d3, d4] }
  | _ => none }
def TrieOrderWrongFalsely : Prop := trieOrderRow.holds Try.pinned (OpenSpec.ofChange trieOrderWrong)

/-- 'waymarklaw18.RibFinds': WHATEVER THE INPUT: true; the input reads as it did. -/
def ribFindsSpec : ChangeSpec := { name := "ribFinds", fn := fun _ => fun
  | [d1, d2, d3] => { results := [.lit (.bool true)], args := [d1, d2, d3] }
  | _ => none }
def ribFindsRow : OpenClaim := { program := "ytjnbemopfhinbaa", sum := "730babf3359c23f328fda05f54b57dce26f56a40e1e4591c51b3efd335d2791c", func := "waymark/waymarklaw18.RibFinds", spec := "ribFinds", inPlace := ["internal/bytealg.Compare"], unfollowed := true, recurses := true, apart := false }
def RibFindsSaid : Prop := ribFindsRow.holds Try.pinned (OpenSpec.ofChange ribFindsSpec)

/-- ITS FALSE NEIGHBOUR: 'it returns false'. Refute it at one input. -/
def ribFindsWrong : ChangeSpec := { name := "ribFinds", fn := fun _ => fun
  | [d1, d2, d3] => { results := [.lit (.bool false)], args := [d1, d2, d3] }
  | _ => none }
def RibFindsWrongFalsely : Prop := ribFindsRow.holds Try.pinned (OpenSpec.ofChange ribFindsWrong)

/-- 'waymarklaw18.RibDiffs': WHATEVER THE INPUT: true; the input reads as it did. -/
def ribDiffsSpec : ChangeSpec := { name := "ribDiffs", fn := fun _ => fun
  | [d1, d2] => { results := [.lit (.bool true)], args := [d1, d2] }
  | _ => none }
def ribDiffsRow : OpenClaim := { program := "ytjnbemopfhinbaa", sum := "730babf3359c23f328fda05f54b57dce26f56a40e1e4591c51b3efd335d2791c", func := "waymark/waymarklaw18.RibDiffs", spec := "ribDiffs", inPlace := ["internal/bytealg.Compare"], unfollowed := true, recurses := true, apart := false }
def RibDiffsSaid : Prop := ribDiffsRow.holds Try.pinned (OpenSpec.ofChange ribDiffsSpec)

/-- ITS FALSE NEIGHBOUR: 'it returns false'. Refute it at one input. -/
def ribDiffsWrong : ChangeSpec := { name := "ribDiffs", fn := fun _ => fun
  | [d1, d2] => { results := [.lit (.bool false)], args := [d1, d2] }
  | _ => none }
def RibDiffsWrongFalsely : Prop := ribDiffsRow.holds Try.pinned (OpenSpec.ofChange ribDiffsWrong)

/-- 'waymarklaw18.RibSteps': WHATEVER THE INPUT: true; the input reads as it did. -/
def ribStepsSpec : ChangeSpec := { name := "ribSteps", fn := fun _ => fun
  | [d1, d2] => { results := [.lit (.bool true)], args := [d1, d2] }
  | _ => none }
def ribStepsRow : OpenClaim := { program := "ytjnbemopfhinbaa", sum := "730babf3359c23f328fda05f54b57dce26f56a40e1e4591c51b3efd335d2791c", func := "waymark/waymarklaw18.RibSteps", spec := "ribSteps", inPlace := ["internal/bytealg.Compare"], unfollowed := true, recurses := true, apart := false }
def RibStepsSaid : Prop := ribStepsRow.holds Try.pinned (OpenSpec.ofChange ribStepsSpec)

/-- ITS FALSE NEIGHBOUR: 'it returns false'. Refute it at one input. -/
def ribStepsWrong : ChangeSpec := { name := "ribSteps", fn := fun _ => fun
  | [d1, d2] => { results := [.lit (.bool false)], args := [d1, d2] }
  | _ => none }
def RibStepsWrongFalsely : Prop := ribStepsRow.holds Try.pinned (OpenSpec.ofChange ribStepsWrong)

/-- 'waymarklaw18.RibCatches': WHATEVER THE INPUT: true; the input reads as it did. -/
def ribCatchesSpec : ChangeSpec := { name := "ribCatches", fn := fun _ => fun
  | [d1, d2, d3] => { results := [.lit (.bool true)], args := [d1, d2, d3] }
  | _ => none }
def ribCatchesRow : OpenClaim := { program := "ytjnbemopfhinbaa", sum := "730babf3359c23f328fda05f54b57dce26f56a40e1e4591c51b3efd335d2791c", func := "waymark/waymarklaw18.RibCatches", spec := "ribCatches", inPlace := ["internal/bytealg.Compare"], unfollowed := true, recurses := true, apart := false }
def RibCatchesSaid : Prop := ribCatchesRow.holds Try.pinned (OpenSpec.ofChange ribCatchesSpec)

/-- ITS FALSE NEIGHBOUR: 'it returns false'. Refute it at one input. -/
def ribCatchesWrong : ChangeSpec := { name := "ribCatches", fn := fun _ => fun
  | [d1, d2, d3] => { results := [.lit (.bool false)], args := [d1, d2, d3] }
  | _ => none }
def RibCatchesWrongFalsely : Prop := ribCatchesRow.holds Try.pinned (OpenSpec.ofChange ribCatchesWrong)

/- THE SECOND FORM. 'bulk': how many values and letters a reading holds, each counted each time it is reached (what is shared counts as often as it is met; a slice's spare places count too). A statement '..UptoSaid' is the law's where the arguments, and the package variables that the reading takes, are together of bulk at most 1048576: NARROWER than '..Said'. Prove '..Said' where nothing that the law and all that it calls make is longer than what came in: it says more and counts as full. Else prove '..UptoSaid'. A law counts once. -/
mutual
def uptoBulk {H : Type} : DataW H → Nat
  | .lit (.string bytes) => bytes.length + 1
  | .lit _ => 1
  | .nil => 1
  | .ptr d => uptoBulk d + 1
  | .slice elems spare => uptoBulkAll elems + uptoBulkAll spare + 1
  | .agg parts => uptoBulkAll parts + 1
  | .iface _ d => uptoBulk d + 1
  | .map entries => uptoBulkEntries entries + 1
  | .held _ => 1
def uptoBulkAll {H : Type} : List (DataW H) → Nat
  | [] => 0
  | d :: r => uptoBulk d + uptoBulkAll r
def uptoBulkEntries {H : Type} : List (Lit × DataW H) → Nat
  | [] => 0
  | x :: r => uptoBulkEntry x + uptoBulkEntries r
def uptoBulkEntry {H : Type} : Lit × DataW H → Nat
  | (.string bytes, d) => bytes.length + uptoBulk d + 1
  | (_, d) => uptoBulk d + 1
 end
def uptoSmall : (H : Type) → List (DataW H) → Bool := fun _ ds => decide (uptoBulkAll ds ≤ 1048576)
def OpenSpec.upto (s : _root_.Go.ChangeSpec) : _root_.Go.OpenSpec := { _root_.Go.OpenSpec.ofChange s with cond := some uptoSmall }

/-- 'waymarklaw17.TriePlays', WHERE WHAT IT READS IS OF BULK AT MOST 1048576: true; the input reads as it did. -/
def triePlaysUptoRow : OpenClaim := { program := "ytjnbemopfhinbaa", sum := "730babf3359c23f328fda05f54b57dce26f56a40e1e4591c51b3efd335d2791c", func := "waymark/waymarklaw17.TriePlays", spec := "triePlays", recurses := true, apart := false, narrowed := true }
def TriePlaysUptoSaid : Prop := triePlaysUptoRow.holds Try.pinned (OpenSpec.upto triePlaysSpec)

/-- 'waymarklaw17.TrieNil', WHERE WHAT IT READS IS OF BULK AT MOST 1048576: true; the input reads as it did. -/
def trieNilUptoRow : OpenClaim := { program := "ytjnbemopfhinbaa", sum := "730babf3359c23f328fda05f54b57dce26f56a40e1e4591c51b3efd335d2791c", func := "waymark/waymarklaw17.TrieNil", spec := "trieNil", recurses := true, apart := false, narrowed := true }
def TrieNilUptoSaid : Prop := trieNilUptoRow.holds Try.pinned (OpenSpec.upto trieNilSpec)

/-- 'waymarklaw17.TrieLongest', WHERE WHAT IT READS IS OF BULK AT MOST 1048576: true; the input reads as it did. -/
def trieLongestUptoRow : OpenClaim := { program := "ytjnbemopfhinbaa", sum := "730babf3359c23f328fda05f54b57dce26f56a40e1e4591c51b3efd335d2791c", func := "waymark/waymarklaw17.TrieLongest", spec := "trieLongest", recurses := true, apart := false, narrowed := true }
def TrieLongestUptoSaid : Prop := trieLongestUptoRow.holds Try.pinned (OpenSpec.upto trieLongestSpec)

/-- 'waymarklaw17.TrieForgets', WHERE WHAT IT READS IS OF BULK AT MOST 1048576: true; the input reads as it did. -/
def trieForgetsUptoRow : OpenClaim := { program := "ytjnbemopfhinbaa", sum := "730babf3359c23f328fda05f54b57dce26f56a40e1e4591c51b3efd335d2791c", func := "waymark/waymarklaw17.TrieForgets", spec := "trieForgets", recurses := true, apart := false, narrowed := true }
def TrieForgetsUptoSaid : Prop := trieForgetsUptoRow.holds Try.pinned (OpenSpec.upto trieForgetsSpec)

/-- 'waymarklaw17.TrieOrder', WHERE WHAT IT READS IS OF BULK AT MOST 1048576: true; the input reads as it did. -/
def trieOrderUptoRow : OpenClaim := { program := "ytjnbemopfhinbaa", sum := "730babf3359c23f328fda05f54b57dce26f56a40e1e4591c51b3efd335d2791c", func := "waymark/waymarklaw17.TrieOrder", spec := "trieOrder", inPlace := ["internal/bytealg.Compare"], recurses := true, apart := false, narrowed := true }
def TrieOrderUptoSaid : Prop := trieOrderUptoRow.holds Try.pinned (OpenSpec.upto trieOrderSpec)

/-- 'waymarklaw18.RibFinds', WHERE WHAT IT READS IS OF BULK AT MOST 1048576: true; the input reads as it did. -/
def ribFindsUptoRow : OpenClaim := { program := "ytjnbemopfhinbaa", sum := "730babf3359c23f328fda05f54b57dce26f56a40e1e4591c51b3efd335d2791c", func := "waymark/waymarklaw18.RibFinds", spec := "ribFinds", inPlace := ["internal/bytealg.Compare"], unfollowed := true, recurses := true, apart := false, narrowed := true }
def RibFindsUptoSaid : Prop := ribFindsUptoRow.holds Try.pinned (OpenSpec.upto ribFindsSpec)

/-- 'waymarklaw18.RibDiffs', WHERE WHAT IT READS IS OF BULK AT MOST 1048576: true; the input reads as it did. -/
def ribDiffsUptoRow : OpenClaim := { program := "ytjnbemopfhinbaa", sum := "730babf3359c23f328fda05f54b57dce26f56a40e1e4591c51b3efd335d2791c", func := "waymark/waymarklaw18.RibDiffs", spec := "ribDiffs", inPlace := ["internal/bytealg.Compare"], unfollowed := true, recurses := true, apart := false, narrowed := true }
def RibDiffsUptoSaid : Prop := ribDiffsUptoRow.holds Try.pinned (OpenSpec.upto ribDiffsSpec)

/-- 'waymarklaw18.RibSteps', WHERE WHAT IT READS IS OF BULK AT MOST 1048576: true; the input reads as it did. -/
def ribStepsUptoRow : OpenClaim := { program := "ytjnbemopfhinbaa", sum := "730babf3359c23f328fda05f54b57dce26f56a40e1e4591c51b3efd335d2791c", func := "waymark/waymarklaw18.RibSteps", spec := "ribSteps", inPlace := ["internal/bytealg.Compare"], unfollowed := true, recurses := true, apart := false, narrowed := true }
def RibStepsUptoSaid : Prop := ribStepsUptoRow.holds Try.pinned (OpenSpec.upto ribStepsSpec)

/-- 'waymarklaw18.RibCatches', WHERE WHAT IT READS IS OF BULK AT MOST 1048576: true; the input reads as it did. -/
def ribCatchesUptoRow : OpenClaim := { program := "ytjnbemopfhinbaa", sum := "730babf3359c23f328fda05f54b57dce26f56a40e1e4591c51b3efd335d2791c", func := "waymark/waymarklaw18.RibCatches", spec := "ribCatches", inPlace := ["internal/bytealg.Compare"], unfollowed := true, recurses := true, apart := false, narrowed := true }
def RibCatchesUptoSaid : Prop := ribCatchesUptoRow.holds Try.pinned (OpenSpec.upto ribCatchesSpec)

end Rows
end Go.Proofs.Ytjnbemopfhinbaa
