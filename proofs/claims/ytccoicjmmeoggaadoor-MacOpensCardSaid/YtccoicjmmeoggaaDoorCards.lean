/-
  DERIVED. GIVEN WITH THE SEED: THE CARDS: each row of YtccoicjmmeoggaaDoorRows.lean that lists a variable, with what it lists TIED to the program's text (the seventh form; the later family's looks); each row that meets fmt, with fmt's text TOLD by the authors' own Lean function (tested against real Go, not proved from fmt's source: count such statements apart). THE CARD IS WHAT COUNTS. Prove the row's statement (the work); the ties are given (YtccoicjmmeoggaaDoorTie.lean); close each card by the builder's one call (the guide's Derived/Test/ToyasCard.lean, 'card_holds'). Laid BY PROGRAM, IN A SANDBOX (cutbox-door.mjs). By AI agents, Wed Nov 11 2026. No macro, syntax, notation, axiom, sorry.
-/
import Derived.Test.YtccoicjmmeoggaaDoorRows
import GoSem.ClaimSeven
namespace Go.Proofs.YtccoicjmmeoggaaDoor
namespace Rows

/-- THE TIED CARD OF 'waymarklaw08.MacSums'. -/
def macSumsCard : Claim7 := { stood := { row := macSumsRow, standIns := [], harness := (true, "ec2d50ae204b336f9d7035aa68a396592e1520bbc9db5202e425fe1943192737"), looks := false }, kinds := [], alts := [], laidByText := true, laidKinds := [.data], laidTests := true, laidLooks := .later }
def MacSumsCardSaid : Prop := Claim7.holds Tryd.pinned (.plain (OpenSpec.ofChange macSumsSpec)) macSumsCard

/-- THE TIED CARD OF 'waymarklaw08.MacSeals'. -/
def macSealsCard : Claim7 := { stood := { row := macSealsRow, standIns := [], harness := (true, "ec2d50ae204b336f9d7035aa68a396592e1520bbc9db5202e425fe1943192737"), looks := false }, kinds := [], alts := [], laidByText := true, laidKinds := [.data], laidTests := true, laidLooks := .later }
def MacSealsCardSaid : Prop := Claim7.holds Tryd.pinned (.plain (OpenSpec.ofChange macSealsSpec)) macSealsCard

/-- THE TIED CARD OF 'waymarklaw08.MacOpens'. -/
def macOpensCard : Claim7 := { stood := { row := macOpensRow, standIns := [], harness := (true, "ec2d50ae204b336f9d7035aa68a396592e1520bbc9db5202e425fe1943192737"), looks := false }, kinds := [], alts := [], laidByText := true, laidKinds := [.data], laidTests := true, laidLooks := .later }
def MacOpensCardSaid : Prop := Claim7.holds Tryd.pinned (.plain (OpenSpec.ofChange macOpensSpec)) macOpensCard

/-- THE TIED CARD OF 'waymarklaw08.MacBack'. -/
def macBackCard : Claim7 := { stood := { row := macBackRow, standIns := [], harness := (true, "ec2d50ae204b336f9d7035aa68a396592e1520bbc9db5202e425fe1943192737"), looks := false }, kinds := [], alts := [], laidByText := true, laidKinds := [.data], laidTests := true, laidLooks := .later }
def MacBackCardSaid : Prop := Claim7.holds Tryd.pinned (.plain (OpenSpec.ofChange macBackSpec)) macBackCard

/-- THE TIED CARD OF 'waymarklaw08.MacPads'. -/
def macPadsCard : Claim7 := { stood := { row := macPadsRow, standIns := [], harness := (true, "ec2d50ae204b336f9d7035aa68a396592e1520bbc9db5202e425fe1943192737"), looks := false }, kinds := [], alts := [], laidByText := true, laidKinds := [.data], laidTests := true, laidLooks := .later }
def MacPadsCardSaid : Prop := Claim7.holds Tryd.pinned (.plain (OpenSpec.ofChange macPadsSpec)) macPadsCard

/-- THE TIED CARD OF 'waymarklaw08.MacAlone'. -/
def macAloneCard : Claim7 := { stood := { row := macAloneRow, standIns := [], harness := (true, "ec2d50ae204b336f9d7035aa68a396592e1520bbc9db5202e425fe1943192737"), looks := false }, kinds := [], alts := [], laidByText := true, laidKinds := [.data], laidTests := true, laidLooks := .later }
def MacAloneCardSaid : Prop := Claim7.holds Tryd.pinned (.plain (OpenSpec.ofChange macAloneSpec)) macAloneCard

/-- THE SECOND FORM's CARD OF 'waymarklaw08.MacSums'. -/
def macSumsUptoCard : Claim7 := { stood := { row := macSumsUptoRow, standIns := [], harness := (true, "ec2d50ae204b336f9d7035aa68a396592e1520bbc9db5202e425fe1943192737"), looks := false }, kinds := [], alts := [], laidByText := true, laidKinds := [.data], laidTests := true, laidLooks := .later }
def MacSumsUptoCardSaid : Prop := Claim7.holds Tryd.pinned (.plain (OpenSpec.upto macSumsSpec)) macSumsUptoCard

/-- THE SECOND FORM's CARD OF 'waymarklaw08.MacSeals'. -/
def macSealsUptoCard : Claim7 := { stood := { row := macSealsUptoRow, standIns := [], harness := (true, "ec2d50ae204b336f9d7035aa68a396592e1520bbc9db5202e425fe1943192737"), looks := false }, kinds := [], alts := [], laidByText := true, laidKinds := [.data], laidTests := true, laidLooks := .later }
def MacSealsUptoCardSaid : Prop := Claim7.holds Tryd.pinned (.plain (OpenSpec.upto macSealsSpec)) macSealsUptoCard

/-- THE SECOND FORM's CARD OF 'waymarklaw08.MacOpens'. -/
def macOpensUptoCard : Claim7 := { stood := { row := macOpensUptoRow, standIns := [], harness := (true, "ec2d50ae204b336f9d7035aa68a396592e1520bbc9db5202e425fe1943192737"), looks := false }, kinds := [], alts := [], laidByText := true, laidKinds := [.data], laidTests := true, laidLooks := .later }
def MacOpensUptoCardSaid : Prop := Claim7.holds Tryd.pinned (.plain (OpenSpec.upto macOpensSpec)) macOpensUptoCard

/-- THE SECOND FORM's CARD OF 'waymarklaw08.MacBack'. -/
def macBackUptoCard : Claim7 := { stood := { row := macBackUptoRow, standIns := [], harness := (true, "ec2d50ae204b336f9d7035aa68a396592e1520bbc9db5202e425fe1943192737"), looks := false }, kinds := [], alts := [], laidByText := true, laidKinds := [.data], laidTests := true, laidLooks := .later }
def MacBackUptoCardSaid : Prop := Claim7.holds Tryd.pinned (.plain (OpenSpec.upto macBackSpec)) macBackUptoCard

/-- THE SECOND FORM's CARD OF 'waymarklaw08.MacPads'. -/
def macPadsUptoCard : Claim7 := { stood := { row := macPadsUptoRow, standIns := [], harness := (true, "ec2d50ae204b336f9d7035aa68a396592e1520bbc9db5202e425fe1943192737"), looks := false }, kinds := [], alts := [], laidByText := true, laidKinds := [.data], laidTests := true, laidLooks := .later }
def MacPadsUptoCardSaid : Prop := Claim7.holds Tryd.pinned (.plain (OpenSpec.upto macPadsSpec)) macPadsUptoCard

/-- THE SECOND FORM's CARD OF 'waymarklaw08.MacAlone'. -/
def macAloneUptoCard : Claim7 := { stood := { row := macAloneUptoRow, standIns := [], harness := (true, "ec2d50ae204b336f9d7035aa68a396592e1520bbc9db5202e425fe1943192737"), looks := false }, kinds := [], alts := [], laidByText := true, laidKinds := [.data], laidTests := true, laidLooks := .later }
def MacAloneUptoCardSaid : Prop := Claim7.holds Tryd.pinned (.plain (OpenSpec.upto macAloneSpec)) macAloneUptoCard
end Rows
end Go.Proofs.YtccoicjmmeoggaaDoor
