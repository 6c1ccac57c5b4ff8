/-
  No cell of these rows narrows 'for every input' (looked for: loops, veiled, ifaces, maps, wideKeys, modest, calm, conditions, laid).
  DERIVED. THE GIVEN ROWS OF THIS SEAT. 4 by the template 'for every input the law returns true; each argument reads behind the call as it read before'; 0 by the template 'total and deterministic' (their statements: YteamnibgeobcbaaTotals.lean).
  GIVEN WITH THE SEED: the statements are not yours to turn. If you find one false, say at which input.
  Laid BY PROGRAM, IN A SANDBOX (cutbox-rows.mjs): the forced cells as the released guide's own fill.sh prints them over the translation 2bef598f12b250b2… (all of the seat's roots in one cut). By AI agents, Wed Nov 11 2026. No macro, syntax, notation, axiom, sorry.
-/
import Derived.Test.YteamnibgeobcbaaChecked
import GoSem.Claim
import GoSem.ClaimJoined
import GoSem.ClaimMapViews
import Derived.JoinedTies
import Derived.KernelRfl
namespace Go.Proofs.Yteamnibgeobcbaa
/- THE CELL 'sum', in the pinned program and in every row, IS THE sha256 OF THE DUMP (.gsa) THAT YteamnibgeobcbaaProg.lean LOADS. Nothing in Lean hashes anything: it is a label: what it is worth is what the hold of that sum in a sandbox is worth. -/
noncomputable def Try.pinned : Pinned := { name := "yteamnibgeobcbaa", sum := "2bef598f12b250b27005f529806fd35f71767fc1c24616dd32181799fb9ca2df", checked := Try.checked }
namespace Rows
def none {H : Type} : Left H := { results := [], args := [] }

/-- 'waymarklaw13.FloodTells': WHATEVER THE INPUT: true; the input reads as it did. -/
def floodTellsSpec : ChangeSpec := { name := "floodTells", fn := fun _ => fun
  | [d1, d2, d3, d4, d5] => { results := [.lit (.bool true)], args := [d1, d2, d3, d4, d5] }
  | _ => none }
def floodTellsRow : OpenClaim := { program := "yteamnibgeobcbaa", sum := "2bef598f12b250b27005f529806fd35f71767fc1c24616dd32181799fb9ca2df", func := "waymark/waymarklaw13.FloodTells", spec := "floodTells", inPlace := ["internal/bytealg.Compare"], unfollowed := true, recurses := true, plainKeys := false, apart := false }
def FloodTellsSaid : Prop := floodTellsRow.holds Try.pinned (OpenSpec.ofChange floodTellsSpec)

/-- ITS FALSE NEIGHBOUR: 'it returns false'. Refute it at one input. -/
def floodTellsWrong : ChangeSpec := { name := "floodTells", fn := fun _ => fun
  | [d1, d2, d3, d4, d5] => { results := [.lit (.bool false)], args := [d1, d2, d3, d4, d5] }
  | _ => none }
def FloodTellsWrongFalsely : Prop := floodTellsRow.holds Try.pinned (OpenSpec.ofChange floodTellsWrong)

/-- 'waymarklaw13.FloodMeshes': WHATEVER THE INPUT: true; the input reads as it did. -/
def floodMeshesSpec : ChangeSpec := { name := "floodMeshes", fn := fun _ => fun
  | [d1, d2, d3] => { results := [.lit (.bool true)], args := [d1, d2, d3] }
  | _ => none }
def floodMeshesRow : OpenClaim := { program := "yteamnibgeobcbaa", sum := "2bef598f12b250b27005f529806fd35f71767fc1c24616dd32181799fb9ca2df", func := "waymark/waymarklaw13.FloodMeshes", spec := "floodMeshes", inPlace := ["internal/bytealg.Compare"], unfollowed := true, recurses := true, plainKeys := false, apart := false }
def FloodMeshesSaid : Prop := floodMeshesRow.holds Try.pinned (OpenSpec.ofChange floodMeshesSpec)

/-- ITS FALSE NEIGHBOUR: 'it returns false'. Refute it at one input. -/
def floodMeshesWrong : ChangeSpec := { name := "floodMeshes", fn := fun _ => fun
  | [d1, d2, d3] => { results := [.lit (.bool false)], args := [d1, d2, d3] }
  | _ => none }
def FloodMeshesWrongFalsely : Prop := floodMeshesRow.holds Try.pinned (OpenSpec.ofChange floodMeshesWrong)

/-- 'waymarklaw13.FloodCloses': WHATEVER THE INPUT: true; the input reads as it did. -/
def floodClosesSpec : ChangeSpec := { name := "floodCloses", fn := fun _ => fun
  | [d1, d2, d3, d4] => { results := [.lit (.bool true)], args := [d1, d2, d3, d4] }
  | _ => none }
def floodClosesRow : OpenClaim := { program := "yteamnibgeobcbaa", sum := "2bef598f12b250b27005f529806fd35f71767fc1c24616dd32181799fb9ca2df", func := "waymark/waymarklaw13.FloodCloses", spec := "floodCloses", inPlace := ["internal/bytealg.Compare"], unfollowed := true, recurses := true, plainKeys := false, apart := false }
def FloodClosesSaid : Prop := floodClosesRow.holds Try.pinned (OpenSpec.ofChange floodClosesSpec)

/-- ITS FALSE NEIGHBOUR: 'it returns false'. Refute it at one input. -/
def floodClosesWrong : ChangeSpec := { name := "floodCloses", fn := fun _ => fun
  | [d1, d2, d3, d4] => { results := [.lit (.bool false)], args := [d1, d2, d3, d4] }
  | _ => none }
def FloodClosesWrongFalsely : Prop := floodClosesRow.holds Try.pinned (OpenSpec.ofChange floodClosesWrong)

/-- 'waymarklaw13.FloodOnce': WHATEVER THE INPUT: true; the input reads as it did. -/
def floodOnceSpec : ChangeSpec := { name := "floodOnce", fn := fun _ => fun
  | [d1, d2, d3] => { results := [.lit (.bool true)], args := [d1, d2, d3] }
  | _ => none }
def floodOnceRow : OpenClaim := { program := "yteamnibgeobcbaa", sum := "2bef598f12b250b27005f529806fd35f71767fc1c24616dd32181799fb9ca2df", func := "waymark/waymarklaw13.FloodOnce", spec := "floodOnce", inPlace := ["internal/bytealg.Compare"], unfollowed := true, recurses := true, plainKeys := false, apart := false }
def FloodOnceSaid : Prop := floodOnceRow.holds Try.pinned (OpenSpec.ofChange floodOnceSpec)

/-- ITS FALSE NEIGHBOUR: 'it returns false'. Refute it at one input. -/
def floodOnceWrong : ChangeSpec := { name := "floodOnce", fn := fun _ => fun
  | [d1, d2, d3] => { results := [.lit (.bool false)], args := [d1, d2, d3] }
  | _ => none }
def FloodOnceWrongFalsely : Prop := floodOnceRow.holds Try.pinned (OpenSpec.ofChange floodOnceWrong)

/- THE SECOND FORM. 'bulk': how many values and letters a reading holds, each counted each time it is reached (what is shared counts as often as it is met; a slice's spare places count too). A statement '..UptoSaid' is the law's where the arguments, and the package variables that the reading takes, are together of bulk at most 1048576: NARROWER than '..Said'. Prove '..Said' where nothing that the law and all that it calls make is longer than what came in: it says more and counts as full. Else prove '..UptoSaid'. A law counts once. -/
mutual
def uptoBulk {H : Type} : DataW H → Nat
  | .lit (.string bytes) => bytes.length + 1
  | .lit _ => 1
  | .nil => 1
  | .ptr d => uptoBulk d + 1
  | .slice elems spare => uptoBulkAll elems + uptoBulkAll spare + 1
  | .agg parts => uptoBulkAll parts + 1
  | .iface _ d => uptoBulk d + 1
  | .map entries => uptoBulkEntries entries + 1
  | .held _ => 1
def uptoBulkAll {H : Type} : List (DataW H) → Nat
  | [] => 0
  | d :: r => uptoBulk d + uptoBulkAll r
def uptoBulkEntries {H : Type} : List (Lit × DataW H) → Nat
  | [] => 0
  | x :: r => uptoBulkEntry x + uptoBulkEntries r
def uptoBulkEntry {H : Type} : Lit × DataW H → Nat
  | (.string bytes, d) => bytes.length + uptoBulk d + 1
  | (_, d) => uptoBulk d + 1
 end
def uptoSmall : (H : Type) → List (DataW H) → Bool := fun _ ds => decide (uptoBulkAll ds ≤ 1048576)
def OpenSpec.upto (s : _root_.Go.ChangeSpec) : _root_.Go.OpenSpec := { _root_.Go.OpenSpec.ofChange s with cond := some uptoSmall }

/-- 'waymarklaw13.FloodTells', WHERE WHAT IT READS IS OF BULK AT MOST 1048576: true; the input reads as it did. -/
def floodTellsUptoRow : OpenClaim := { program := "yteamnibgeobcbaa", sum := "2bef598f12b250b27005f529806fd35f71767fc1c24616dd32181799fb9ca2df", func := "waymark/waymarklaw13.FloodTells", spec := "floodTells", inPlace := ["internal/bytealg.Compare"], unfollowed := true, recurses := true, plainKeys := false, apart := false, narrowed := true }
def FloodTellsUptoSaid : Prop := floodTellsUptoRow.holds Try.pinned (OpenSpec.upto floodTellsSpec)

/-- 'waymarklaw13.FloodMeshes', WHERE WHAT IT READS IS OF BULK AT MOST 1048576: true; the input reads as it did. -/
def floodMeshesUptoRow : OpenClaim := { program := "yteamnibgeobcbaa", sum := "2bef598f12b250b27005f529806fd35f71767fc1c24616dd32181799fb9ca2df", func := "waymark/waymarklaw13.FloodMeshes", spec := "floodMeshes", inPlace := ["internal/bytealg.Compare"], unfollowed := true, recurses := true, plainKeys := false, apart := false, narrowed := true }
def FloodMeshesUptoSaid : Prop := floodMeshesUptoRow.holds Try.pinned (OpenSpec.upto floodMeshesSpec)

/-- 'waymarklaw13.FloodCloses', WHERE WHAT IT READS IS OF BULK AT MOST 1048576: true; the input reads as it did. -/
def floodClosesUptoRow : OpenClaim := { program := "yteamnibgeobcbaa", sum := "2bef598f12b250b27005f529806fd35f71767fc1c24616dd32181799fb9ca2df", func := "waymark/waymarklaw13.FloodCloses", spec := "floodCloses", inPlace := ["internal/bytealg.Compare"], unfollowed := true, recurses := true, plainKeys := false, apart := false, narrowed := true }
def FloodClosesUptoSaid : Prop := floodClosesUptoRow.holds Try.pinned (OpenSpec.upto floodClosesSpec)

/-- 'waymarklaw13.FloodOnce', WHERE WHAT IT READS IS OF BULK AT MOST 1048576: true; the input reads as it did. -/
def floodOnceUptoRow : OpenClaim := { program := "yteamnibgeobcbaa", sum := "2bef598f12b250b27005f529806fd35f71767fc1c24616dd32181799fb9ca2df", func := "waymark/waymarklaw13.FloodOnce", spec := "floodOnce", inPlace := ["internal/bytealg.Compare"], unfollowed := true, recurses := true, plainKeys := false, apart := false, narrowed := true }
def FloodOnceUptoSaid : Prop := floodOnceUptoRow.holds Try.pinned (OpenSpec.upto floodOnceSpec)

end Rows
end Go.Proofs.Yteamnibgeobcbaa
