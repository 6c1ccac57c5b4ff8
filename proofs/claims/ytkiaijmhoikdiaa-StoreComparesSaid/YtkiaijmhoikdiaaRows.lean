/-
  No cell of these rows narrows 'for every input' (looked for: loops, veiled, ifaces, maps, wideKeys, modest, calm, conditions, laid).
  DERIVED. THE GIVEN ROWS OF THIS SEAT. 5 by the template 'for every input the law returns true; each argument reads behind the call as it read before'; 0 by the template 'total and deterministic' (their statements: YtkiaijmhoikdiaaTotals.lean).
  GIVEN WITH THE SEED: the statements are not yours to turn. If you find one false, say at which input.
  Laid BY PROGRAM, IN A SANDBOX (cutbox-rows.mjs): the forced cells as the released guide's own fill.sh prints them over the translation 11a8fca31093051b… (all of the seat's roots in one cut). By AI agents, Wed Nov 11 2026. No macro, syntax, notation, axiom, sorry.
-/
import Derived.Test.YtkiaijmhoikdiaaChecked
import GoSem.Claim
import GoSem.ClaimJoined
import GoSem.ClaimMapViews
import Derived.JoinedTies
import Derived.KernelRfl
namespace Go.Proofs.Ytkiaijmhoikdiaa
/- THE CELL 'sum', in the pinned program and in every row, IS THE sha256 OF THE DUMP (.gsa) THAT YtkiaijmhoikdiaaProg.lean LOADS. Nothing in Lean hashes anything: it is a label: what it is worth is what the hold of that sum in a sandbox is worth. -/
noncomputable def Try.pinned : Pinned := { name := "ytkiaijmhoikdiaa", sum := "11a8fca31093051b1b138a0955d7e43a50e7d4dee84682ea6dd68e7953e9fa59", checked := Try.checked }
namespace Rows
def none {H : Type} : Left H := { results := [], args := [] }

/-- 'waymarklaw12.StoreCompares': WHATEVER THE INPUT: true; the input reads as it did. -/
def storeComparesSpec : ChangeSpec := { name := "storeCompares", fn := fun _ => fun
  | [d1, d2] => { results := [.lit (.bool true)], args := [d1, d2] }
  | _ => none }
def storeComparesRow : OpenClaim := { program := "ytkiaijmhoikdiaa", sum := "11a8fca31093051b1b138a0955d7e43a50e7d4dee84682ea6dd68e7953e9fa59", func := "waymark/waymarklaw12.StoreCompares", spec := "storeCompares", inPlace := ["internal/bytealg.Compare"], plainKeys := false, apart := false }
def StoreComparesSaid : Prop := storeComparesRow.holds Try.pinned (OpenSpec.ofChange storeComparesSpec)

/-- ITS FALSE NEIGHBOUR: 'it returns false'. Refute it at one input. -/
def storeComparesWrong : ChangeSpec := { name := "storeCompares", fn := fun _ => fun
  | [d1, d2] => { results := [.lit (.bool false)], args := [d1, d2] }
  | _ => none }
def StoreComparesWrongFalsely : Prop := storeComparesRow.holds Try.pinned (OpenSpec.ofChange storeComparesWrong)

/-- 'waymarklaw12.StoreMerges': WHATEVER THE INPUT: true; the input reads as it did. -/
def storeMergesSpec : ChangeSpec := { name := "storeMerges", fn := fun _ => fun
  | [d1, d2, d3] => { results := [.lit (.bool true)], args := [d1, d2, d3] }
  | _ => none }
def storeMergesRow : OpenClaim := { program := "ytkiaijmhoikdiaa", sum := "11a8fca31093051b1b138a0955d7e43a50e7d4dee84682ea6dd68e7953e9fa59", func := "waymark/waymarklaw12.StoreMerges", spec := "storeMerges", inPlace := ["internal/bytealg.Compare"], unfollowed := true, recurses := true, plainKeys := false, apart := false }
def StoreMergesSaid : Prop := storeMergesRow.holds Try.pinned (OpenSpec.ofChange storeMergesSpec)

/-- ITS FALSE NEIGHBOUR: 'it returns false'. Refute it at one input. -/
def storeMergesWrong : ChangeSpec := { name := "storeMerges", fn := fun _ => fun
  | [d1, d2, d3] => { results := [.lit (.bool false)], args := [d1, d2, d3] }
  | _ => none }
def StoreMergesWrongFalsely : Prop := storeMergesRow.holds Try.pinned (OpenSpec.ofChange storeMergesWrong)

/-- 'waymarklaw12.StoreLives': WHATEVER THE INPUT: true; the input reads as it did. -/
def storeLivesSpec : ChangeSpec := { name := "storeLives", fn := fun _ => fun
  | [d1, d2] => { results := [.lit (.bool true)], args := [d1, d2] }
  | _ => none }
def storeLivesRow : OpenClaim := { program := "ytkiaijmhoikdiaa", sum := "11a8fca31093051b1b138a0955d7e43a50e7d4dee84682ea6dd68e7953e9fa59", func := "waymark/waymarklaw12.StoreLives", spec := "storeLives", inPlace := ["internal/bytealg.Compare"], unfollowed := true, recurses := true, plainKeys := false, apart := false }
def StoreLivesSaid : Prop := storeLivesRow.holds Try.pinned (OpenSpec.ofChange storeLivesSpec)

/-- ITS FALSE NEIGHBOUR: 'it returns false'. Refute it at one input. -/
def storeLivesWrong : ChangeSpec := { name := "storeLives", fn := fun _ => fun
  | [d1, d2] => { results := [.lit (.bool false)], args := [d1, d2] }
  | _ => none }
def StoreLivesWrongFalsely : Prop := storeLivesRow.holds Try.pinned (OpenSpec.ofChange storeLivesWrong)

/-- 'waymarklaw12.StoreOrder': WHATEVER THE INPUT: true; the input reads as it did. -/
def storeOrderSpec : ChangeSpec := { name := "storeOrder", fn := fun _ => fun
  | [d1, d2, d3] => { results := [.lit (.bool true)], args := [d1, d2, d3] }
  | _ => none }
def storeOrderRow : OpenClaim := { program := "ytkiaijmhoikdiaa", sum := "11a8fca31093051b1b138a0955d7e43a50e7d4dee84682ea6dd68e7953e9fa59", func := "waymark/waymarklaw12.StoreOrder", spec := "storeOrder", inPlace := ["internal/bytealg.Compare"], unfollowed := true, recurses := true, plainKeys := false, apart := false }
def StoreOrderSaid : Prop := storeOrderRow.holds Try.pinned (OpenSpec.ofChange storeOrderSpec)

/-- ITS FALSE NEIGHBOUR: 'it returns false'. Refute it at one input. -/
def storeOrderWrong : ChangeSpec := { name := "storeOrder", fn := fun _ => fun
  | [d1, d2, d3] => { results := [.lit (.bool false)], args := [d1, d2, d3] }
  | _ => none }
def StoreOrderWrongFalsely : Prop := storeOrderRow.holds Try.pinned (OpenSpec.ofChange storeOrderWrong)

/-- 'waymarklaw12.StoreRange': WHATEVER THE INPUT: true; the input reads as it did. -/
def storeRangeSpec : ChangeSpec := { name := "storeRange", fn := fun _ => fun
  | [d1, d2, d3] => { results := [.lit (.bool true)], args := [d1, d2, d3] }
  | _ => none }
def storeRangeRow : OpenClaim := { program := "ytkiaijmhoikdiaa", sum := "11a8fca31093051b1b138a0955d7e43a50e7d4dee84682ea6dd68e7953e9fa59", func := "waymark/waymarklaw12.StoreRange", spec := "storeRange", inPlace := ["internal/bytealg.Compare"], unfollowed := true, recurses := true, plainKeys := false, apart := false }
def StoreRangeSaid : Prop := storeRangeRow.holds Try.pinned (OpenSpec.ofChange storeRangeSpec)

/-- ITS FALSE NEIGHBOUR: 'it returns false'. Refute it at one input. -/
def storeRangeWrong : ChangeSpec := { name := "storeRange", fn := fun _ => fun
  | [d1, d2, d3] => { results := [.lit (.bool false)], args := [d1, d2, d3] }
  | _ => none }
def StoreRangeWrongFalsely : Prop := storeRangeRow.holds Try.pinned (OpenSpec.ofChange storeRangeWrong)

/- THE SECOND FORM. 'bulk': how many values and letters a reading holds, each counted each time it is reached (what is shared counts as often as it is met; a slice's spare places count too). A statement '..UptoSaid' is the law's where the arguments, and the package variables that the reading takes, are together of bulk at most 1048576: NARROWER than '..Said'. Prove '..Said' where nothing that the law and all that it calls make is longer than what came in: it says more and counts as full. Else prove '..UptoSaid'. A law counts once. -/
mutual
def uptoBulk {H : Type} : DataW H → Nat
  | .lit (.string bytes) => bytes.length + 1
  | .lit _ => 1
  | .nil => 1
  | .ptr d => uptoBulk d + 1
  | .slice elems spare => uptoBulkAll elems + uptoBulkAll spare + 1
  | .agg parts => uptoBulkAll parts + 1
  | .iface _ d => uptoBulk d + 1
  | .map entries => uptoBulkEntries entries + 1
  | .held _ => 1
def uptoBulkAll {H : Type} : List (DataW H) → Nat
  | [] => 0
  | d :: r => uptoBulk d + uptoBulkAll r
def uptoBulkEntries {H : Type} : List (Lit × DataW H) → Nat
  | [] => 0
  | x :: r => uptoBulkEntry x + uptoBulkEntries r
def uptoBulkEntry {H : Type} : Lit × DataW H → Nat
  | (.string bytes, d) => bytes.length + uptoBulk d + 1
  | (_, d) => uptoBulk d + 1
 end
def uptoSmall : (H : Type) → List (DataW H) → Bool := fun _ ds => decide (uptoBulkAll ds ≤ 1048576)
def OpenSpec.upto (s : _root_.Go.ChangeSpec) : _root_.Go.OpenSpec := { _root_.Go.OpenSpec.ofChange s with cond := some uptoSmall }

/-- 'waymarklaw12.StoreCompares', WHERE WHAT IT READS IS OF BULK AT MOST 1048576: true; the input reads as it did. -/
def storeComparesUptoRow : OpenClaim := { program := "ytkiaijmhoikdiaa", sum := "11a8fca31093051b1b138a0955d7e43a50e7d4dee84682ea6dd68e7953e9fa59", func := "waymark/waymarklaw12.StoreCompares", spec := "storeCompares", inPlace := ["internal/bytealg.Compare"], plainKeys := false, apart := false, narrowed := true }
def StoreComparesUptoSaid : Prop := storeComparesUptoRow.holds Try.pinned (OpenSpec.upto storeComparesSpec)

/-- 'waymarklaw12.StoreMerges', WHERE WHAT IT READS IS OF BULK AT MOST 1048576: true; the input reads as it did. -/
def storeMergesUptoRow : OpenClaim := { program := "ytkiaijmhoikdiaa", sum := "11a8fca31093051b1b138a0955d7e43a50e7d4dee84682ea6dd68e7953e9fa59", func := "waymark/waymarklaw12.StoreMerges", spec := "storeMerges", inPlace := ["internal/bytealg.Compare"], unfollowed := true, recurses := true, plainKeys := false, apart := false, narrowed := true }
def StoreMergesUptoSaid : Prop := storeMergesUptoRow.holds Try.pinned (OpenSpec.upto storeMergesSpec)

/-- 'waymarklaw12.StoreLives', WHERE WHAT IT READS IS OF BULK AT MOST 1048576: true; the input reads as it did. -/
def storeLivesUptoRow : OpenClaim := { program := "ytkiaijmhoikdiaa", sum := "11a8fca31093051b1b138a0955d7e43a50e7d4dee84682ea6dd68e7953e9fa59", func := "waymark/waymarklaw12.StoreLives", spec := "storeLives", inPlace := ["internal/bytealg.Compare"], unfollowed := true, recurses := true, plainKeys := false, apart := false, narrowed := true }
def StoreLivesUptoSaid : Prop := storeLivesUptoRow.holds Try.pinned (OpenSpec.upto storeLivesSpec)

/-- 'waymarklaw12.StoreOrder', WHERE WHAT IT READS IS OF BULK AT MOST 1048576: true; the input reads as it did. -/
def storeOrderUptoRow : OpenClaim := { program := "ytkiaijmhoikdiaa", sum := "11a8fca31093051b1b138a0955d7e43a50e7d4dee84682ea6dd68e7953e9fa59", func := "waymark/waymarklaw12.StoreOrder", spec := "storeOrder", inPlace := ["internal/bytealg.Compare"], unfollowed := true, recurses := true, plainKeys := false, apart := false, narrowed := true }
def StoreOrderUptoSaid : Prop := storeOrderUptoRow.holds Try.pinned (OpenSpec.upto storeOrderSpec)

/-- 'waymarklaw12.StoreRange', WHERE WHAT IT READS IS OF BULK AT MOST 1048576: true; the input reads as it did. -/
def storeRangeUptoRow : OpenClaim := { program := "ytkiaijmhoikdiaa", sum := "11a8fca31093051b1b138a0955d7e43a50e7d4dee84682ea6dd68e7953e9fa59", func := "waymark/waymarklaw12.StoreRange", spec := "storeRange", inPlace := ["internal/bytealg.Compare"], unfollowed := true, recurses := true, plainKeys := false, apart := false, narrowed := true }
def StoreRangeUptoSaid : Prop := storeRangeUptoRow.holds Try.pinned (OpenSpec.upto storeRangeSpec)

end Rows
end Go.Proofs.Ytkiaijmhoikdiaa
