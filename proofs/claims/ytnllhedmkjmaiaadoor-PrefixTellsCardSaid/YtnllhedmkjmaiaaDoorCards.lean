/-
  DERIVED. GIVEN WITH THE SEED: THE CARDS: each row of YtnllhedmkjmaiaaDoorRows.lean that lists a variable, with what it lists TIED to the program's text (the seventh form; the later family's looks); each row that meets fmt, with fmt's text TOLD by the authors' own Lean function (tested against real Go, not proved from fmt's source: count such statements apart). THE CARD IS WHAT COUNTS. Prove the row's statement (the work); the ties are given (YtnllhedmkjmaiaaDoorTie.lean); close each card by the builder's one call (the guide's Derived/Test/ToyasCard.lean, 'card_holds'). Laid BY PROGRAM, IN A SANDBOX (cutbox-door.mjs). By AI agents, Wed Nov 11 2026. No macro, syntax, notation, axiom, sorry.
-/
import Derived.Test.YtnllhedmkjmaiaaDoorRows
import GoSem.ClaimSeven
namespace Go.Proofs.YtnllhedmkjmaiaaDoor
namespace Rows

/-- THE TIED CARD OF 'waymarklaw03.PrefixForms'. -/
def prefixFormsCard : Claim7 := { stood := { row := prefixFormsRow, standIns := [], harness := (true, "78810e2e20e974ce59e6898ec40c4ec0da6b200fdcfb801f9a18e9ccdfee2b22"), looks := true }, kinds := [], alts := [], laidByText := true, laidKinds := [.data, .data, .data, .data, .sentinel, .sentinel, .pinned], laidTests := true, laidLooks := .later }
def PrefixFormsCardSaid : Prop := Claim7.holds Tryd.pinned (.plain (OpenSpec.ofChange prefixFormsSpec)) prefixFormsCard

/-- THE TIED CARD OF 'waymarklaw03.PrefixOrders'. -/
def prefixOrdersCard : Claim7 := { stood := { row := prefixOrdersRow, standIns := [], harness := (true, "78810e2e20e974ce59e6898ec40c4ec0da6b200fdcfb801f9a18e9ccdfee2b22"), looks := true }, kinds := [], alts := [], laidByText := true, laidKinds := [.data, .data, .data, .data, .sentinel, .sentinel, .pinned], laidTests := true, laidLooks := .later }
def PrefixOrdersCardSaid : Prop := Claim7.holds Tryd.pinned (.plain (OpenSpec.ofChange prefixOrdersSpec)) prefixOrdersCard

/-- THE TIED CARD OF 'waymarklaw03.PrefixTexts'. -/
def prefixTextsCard : Claim7 := { stood := { row := prefixTextsRow, standIns := [], harness := (true, "78810e2e20e974ce59e6898ec40c4ec0da6b200fdcfb801f9a18e9ccdfee2b22"), looks := true }, kinds := [], alts := [], laidByText := true, laidKinds := [.data, .data, .data, .data, .sentinel, .sentinel, .pinned], laidTests := true, laidLooks := .later }
def PrefixTextsCardSaid : Prop := Claim7.holds Tryd.pinned (.plain (OpenSpec.ofChange prefixTextsSpec)) prefixTextsCard

/-- THE TIED CARD OF 'waymarklaw03.PrefixLaws'. -/
def prefixLawsCard : Claim7 := { stood := { row := prefixLawsRow, standIns := [], harness := (true, "78810e2e20e974ce59e6898ec40c4ec0da6b200fdcfb801f9a18e9ccdfee2b22"), looks := true }, kinds := [], alts := [], laidByText := true, laidKinds := [.data, .data, .data, .data, .sentinel, .sentinel, .pinned], laidTests := true, laidLooks := .later }
def PrefixLawsCardSaid : Prop := Claim7.holds Tryd.pinned (.plain (OpenSpec.ofChange prefixLawsSpec)) prefixLawsCard

/-- THE TIED CARD OF 'waymarklaw03.PrefixOrder'. -/
def prefixOrderCard : Claim7 := { stood := { row := prefixOrderRow, standIns := [], harness := (true, "78810e2e20e974ce59e6898ec40c4ec0da6b200fdcfb801f9a18e9ccdfee2b22"), looks := true }, kinds := [], alts := [], laidByText := true, laidKinds := [.data, .data, .data, .data, .sentinel, .sentinel, .pinned], laidTests := true, laidLooks := .later }
def PrefixOrderCardSaid : Prop := Claim7.holds Tryd.pinned (.plain (OpenSpec.ofChange prefixOrderSpec)) prefixOrderCard

/-- THE TIED CARD OF 'waymarklaw03.PrefixCuts'. -/
def prefixCutsCard : Claim7 := { stood := { row := prefixCutsRow, standIns := [], harness := (true, "78810e2e20e974ce59e6898ec40c4ec0da6b200fdcfb801f9a18e9ccdfee2b22"), looks := true }, kinds := [], alts := [], laidByText := true, laidKinds := [.data, .data, .data, .data, .sentinel, .sentinel, .pinned], laidTests := true, laidLooks := .later }
def PrefixCutsCardSaid : Prop := Claim7.holds Tryd.pinned (.plain (OpenSpec.ofChange prefixCutsSpec)) prefixCutsCard

/-- THE TIED CARD OF 'waymarklaw03.PrefixTells'. -/
def prefixTellsCard : Claim7 := { stood := { row := prefixTellsRow, standIns := [], harness := (true, "78810e2e20e974ce59e6898ec40c4ec0da6b200fdcfb801f9a18e9ccdfee2b22"), looks := true }, kinds := [], alts := [], laidByText := true, laidKinds := [.data, .data, .data, .data, .sentinel, .sentinel, .pinned], laidTests := true, laidLooks := .later }
def PrefixTellsCardSaid : Prop := Claim7.holds Tryd.pinned (.plain (OpenSpec.ofChange prefixTellsSpec)) prefixTellsCard

/-- THE SECOND FORM's CARD OF 'waymarklaw03.PrefixForms'. -/
def prefixFormsUptoCard : Claim7 := { stood := { row := prefixFormsUptoRow, standIns := [], harness := (true, "78810e2e20e974ce59e6898ec40c4ec0da6b200fdcfb801f9a18e9ccdfee2b22"), looks := true }, kinds := [], alts := [], laidByText := true, laidKinds := [.data, .data, .data, .data, .sentinel, .sentinel, .pinned], laidTests := true, laidLooks := .later }
def PrefixFormsUptoCardSaid : Prop := Claim7.holds Tryd.pinned (.plain (OpenSpec.upto prefixFormsSpec)) prefixFormsUptoCard

/-- THE SECOND FORM's CARD OF 'waymarklaw03.PrefixOrders'. -/
def prefixOrdersUptoCard : Claim7 := { stood := { row := prefixOrdersUptoRow, standIns := [], harness := (true, "78810e2e20e974ce59e6898ec40c4ec0da6b200fdcfb801f9a18e9ccdfee2b22"), looks := true }, kinds := [], alts := [], laidByText := true, laidKinds := [.data, .data, .data, .data, .sentinel, .sentinel, .pinned], laidTests := true, laidLooks := .later }
def PrefixOrdersUptoCardSaid : Prop := Claim7.holds Tryd.pinned (.plain (OpenSpec.upto prefixOrdersSpec)) prefixOrdersUptoCard

/-- THE SECOND FORM's CARD OF 'waymarklaw03.PrefixTexts'. -/
def prefixTextsUptoCard : Claim7 := { stood := { row := prefixTextsUptoRow, standIns := [], harness := (true, "78810e2e20e974ce59e6898ec40c4ec0da6b200fdcfb801f9a18e9ccdfee2b22"), looks := true }, kinds := [], alts := [], laidByText := true, laidKinds := [.data, .data, .data, .data, .sentinel, .sentinel, .pinned], laidTests := true, laidLooks := .later }
def PrefixTextsUptoCardSaid : Prop := Claim7.holds Tryd.pinned (.plain (OpenSpec.upto prefixTextsSpec)) prefixTextsUptoCard

/-- THE SECOND FORM's CARD OF 'waymarklaw03.PrefixLaws'. -/
def prefixLawsUptoCard : Claim7 := { stood := { row := prefixLawsUptoRow, standIns := [], harness := (true, "78810e2e20e974ce59e6898ec40c4ec0da6b200fdcfb801f9a18e9ccdfee2b22"), looks := true }, kinds := [], alts := [], laidByText := true, laidKinds := [.data, .data, .data, .data, .sentinel, .sentinel, .pinned], laidTests := true, laidLooks := .later }
def PrefixLawsUptoCardSaid : Prop := Claim7.holds Tryd.pinned (.plain (OpenSpec.upto prefixLawsSpec)) prefixLawsUptoCard

/-- THE SECOND FORM's CARD OF 'waymarklaw03.PrefixOrder'. -/
def prefixOrderUptoCard : Claim7 := { stood := { row := prefixOrderUptoRow, standIns := [], harness := (true, "78810e2e20e974ce59e6898ec40c4ec0da6b200fdcfb801f9a18e9ccdfee2b22"), looks := true }, kinds := [], alts := [], laidByText := true, laidKinds := [.data, .data, .data, .data, .sentinel, .sentinel, .pinned], laidTests := true, laidLooks := .later }
def PrefixOrderUptoCardSaid : Prop := Claim7.holds Tryd.pinned (.plain (OpenSpec.upto prefixOrderSpec)) prefixOrderUptoCard

/-- THE SECOND FORM's CARD OF 'waymarklaw03.PrefixCuts'. -/
def prefixCutsUptoCard : Claim7 := { stood := { row := prefixCutsUptoRow, standIns := [], harness := (true, "78810e2e20e974ce59e6898ec40c4ec0da6b200fdcfb801f9a18e9ccdfee2b22"), looks := true }, kinds := [], alts := [], laidByText := true, laidKinds := [.data, .data, .data, .data, .sentinel, .sentinel, .pinned], laidTests := true, laidLooks := .later }
def PrefixCutsUptoCardSaid : Prop := Claim7.holds Tryd.pinned (.plain (OpenSpec.upto prefixCutsSpec)) prefixCutsUptoCard

/-- THE SECOND FORM's CARD OF 'waymarklaw03.PrefixTells'. -/
def prefixTellsUptoCard : Claim7 := { stood := { row := prefixTellsUptoRow, standIns := [], harness := (true, "78810e2e20e974ce59e6898ec40c4ec0da6b200fdcfb801f9a18e9ccdfee2b22"), looks := true }, kinds := [], alts := [], laidByText := true, laidKinds := [.data, .data, .data, .data, .sentinel, .sentinel, .pinned], laidTests := true, laidLooks := .later }
def PrefixTellsUptoCardSaid : Prop := Claim7.holds Tryd.pinned (.plain (OpenSpec.upto prefixTellsSpec)) prefixTellsUptoCard
end Rows
end Go.Proofs.YtnllhedmkjmaiaaDoor
