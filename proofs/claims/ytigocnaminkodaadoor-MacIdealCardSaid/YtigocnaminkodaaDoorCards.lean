/-
  DERIVED. GIVEN WITH THE SEED: THE CARDS: each row of YtigocnaminkodaaDoorRows.lean that lists a variable, with what it lists TIED to the program's text (the seventh form; the later family's looks); each row that meets fmt, with fmt's text TOLD by the authors' own Lean function (tested against real Go, not proved from fmt's source: count such statements apart). THE CARD IS WHAT COUNTS. Prove the row's statement (the work); the ties are given (YtigocnaminkodaaDoorTie.lean); close each card by the builder's one call (the guide's Derived/Test/ToyasCard.lean, 'card_holds'). Laid BY PROGRAM, IN A SANDBOX (cutbox-door.mjs). By AI agents, Wed Nov 11 2026. No macro, syntax, notation, axiom, sorry.
-/
import Derived.Test.YtigocnaminkodaaDoorRows
import GoSem.ClaimSeven
namespace Go.Proofs.YtigocnaminkodaaDoor
namespace Rows

/-- THE TIED CARD OF 'wicketmanlaw02.ShaSums'. -/
def shaSumsCard : Claim7 := { stood := { row := shaSumsRow, standIns := [], harness := (true, "b988a9d1c63987ffe78da5947ac5adf058c3d76bac58b729235e183bf670bba7"), looks := false }, kinds := [], alts := [], laidByText := true, laidKinds := [.data, .data], laidTests := true, laidLooks := .later }
def ShaSumsCardSaid : Prop := Claim7.holds Tryd.pinned (.plain (OpenSpec.ofChange shaSumsSpec)) shaSumsCard

/-- THE TIED CARD OF 'wicketmanlaw02.ShaWrong'. -/
def shaWrongCard : Claim7 := { stood := { row := shaWrongRow, standIns := [], harness := (true, "b988a9d1c63987ffe78da5947ac5adf058c3d76bac58b729235e183bf670bba7"), looks := false }, kinds := [], alts := [], laidByText := true, laidKinds := [.data, .data], laidTests := true, laidLooks := .later }
def ShaWrongCardSaid : Prop := Claim7.holds Tryd.pinned (.plain (OpenSpec.ofChange shaWrongSpec)) shaWrongCard

/-- THE TIED CARD OF 'wicketmanlaw03.MacCodes'. -/
def macCodesCard : Claim7 := { stood := { row := macCodesRow, standIns := [], harness := (true, "b988a9d1c63987ffe78da5947ac5adf058c3d76bac58b729235e183bf670bba7"), looks := false }, kinds := [], alts := [], laidByText := true, laidKinds := [.data, .data], laidTests := true, laidLooks := .later }
def MacCodesCardSaid : Prop := Claim7.holds Tryd.pinned (.plain (OpenSpec.ofChange macCodesSpec)) macCodesCard

/-- THE TIED CARD OF 'wicketmanlaw03.MacIdeal'. -/
def macIdealCard : Claim7 := { stood := { row := macIdealRow, standIns := [], harness := (true, "b988a9d1c63987ffe78da5947ac5adf058c3d76bac58b729235e183bf670bba7"), looks := false }, kinds := [], alts := [], laidByText := true, laidKinds := [.data, .data], laidTests := true, laidLooks := .later }
def MacIdealCardSaid : Prop := Claim7.holds Tryd.pinned (.plain (OpenSpec.ofChange macIdealSpec)) macIdealCard

/-- THE TIED CARD OF 'wicketmanlaw03.MacKeys'. -/
def macKeysCard : Claim7 := { stood := { row := macKeysRow, standIns := [], harness := (true, "b988a9d1c63987ffe78da5947ac5adf058c3d76bac58b729235e183bf670bba7"), looks := false }, kinds := [], alts := [], laidByText := true, laidKinds := [.data, .data], laidTests := true, laidLooks := .later }
def MacKeysCardSaid : Prop := Claim7.holds Tryd.pinned (.plain (OpenSpec.ofChange macKeysSpec)) macKeysCard

/-- THE TIED CARD OF 'wicketmanlaw03.MacProves'. -/
def macProvesCard : Claim7 := { stood := { row := macProvesRow, standIns := [], harness := (true, "b988a9d1c63987ffe78da5947ac5adf058c3d76bac58b729235e183bf670bba7"), looks := false }, kinds := [], alts := [], laidByText := true, laidKinds := [.data, .data], laidTests := true, laidLooks := .later }
def MacProvesCardSaid : Prop := Claim7.holds Tryd.pinned (.plain (OpenSpec.ofChange macProvesSpec)) macProvesCard

/-- THE TIED CARD OF 'wicketmanlaw03.MacSteps'. -/
def macStepsCard : Claim7 := { stood := { row := macStepsRow, standIns := [], harness := (true, "b988a9d1c63987ffe78da5947ac5adf058c3d76bac58b729235e183bf670bba7"), looks := false }, kinds := [], alts := [], laidByText := true, laidKinds := [.data, .data], laidTests := true, laidLooks := .later }
def MacStepsCardSaid : Prop := Claim7.holds Tryd.pinned (.plain (OpenSpec.ofChange macStepsSpec)) macStepsCard

/-- THE TIED CARD OF 'wicketmanlaw03.MacApart'. -/
def macApartCard : Claim7 := { stood := { row := macApartRow, standIns := [], harness := (true, "b988a9d1c63987ffe78da5947ac5adf058c3d76bac58b729235e183bf670bba7"), looks := false }, kinds := [], alts := [], laidByText := true, laidKinds := [.data, .data], laidTests := true, laidLooks := .later }
def MacApartCardSaid : Prop := Claim7.holds Tryd.pinned (.plain (OpenSpec.ofChange macApartSpec)) macApartCard

/-- THE TIED CARD OF 'wicketmanlaw03.MacOrder'. -/
def macOrderCard : Claim7 := { stood := { row := macOrderRow, standIns := [], harness := (true, "b988a9d1c63987ffe78da5947ac5adf058c3d76bac58b729235e183bf670bba7"), looks := false }, kinds := [], alts := [], laidByText := true, laidKinds := [.data, .data], laidTests := true, laidLooks := .later }
def MacOrderCardSaid : Prop := Claim7.holds Tryd.pinned (.plain (OpenSpec.ofChange macOrderSpec)) macOrderCard

/-- THE SECOND FORM's CARD OF 'wicketmanlaw02.ShaSums'. -/
def shaSumsUptoCard : Claim7 := { stood := { row := shaSumsUptoRow, standIns := [], harness := (true, "b988a9d1c63987ffe78da5947ac5adf058c3d76bac58b729235e183bf670bba7"), looks := false }, kinds := [], alts := [], laidByText := true, laidKinds := [.data, .data], laidTests := true, laidLooks := .later }
def ShaSumsUptoCardSaid : Prop := Claim7.holds Tryd.pinned (.plain (OpenSpec.upto shaSumsSpec)) shaSumsUptoCard

/-- THE SECOND FORM's CARD OF 'wicketmanlaw02.ShaWrong'. -/
def shaWrongUptoCard : Claim7 := { stood := { row := shaWrongUptoRow, standIns := [], harness := (true, "b988a9d1c63987ffe78da5947ac5adf058c3d76bac58b729235e183bf670bba7"), looks := false }, kinds := [], alts := [], laidByText := true, laidKinds := [.data, .data], laidTests := true, laidLooks := .later }
def ShaWrongUptoCardSaid : Prop := Claim7.holds Tryd.pinned (.plain (OpenSpec.upto shaWrongSpec)) shaWrongUptoCard

/-- THE SECOND FORM's CARD OF 'wicketmanlaw03.MacCodes'. -/
def macCodesUptoCard : Claim7 := { stood := { row := macCodesUptoRow, standIns := [], harness := (true, "b988a9d1c63987ffe78da5947ac5adf058c3d76bac58b729235e183bf670bba7"), looks := false }, kinds := [], alts := [], laidByText := true, laidKinds := [.data, .data], laidTests := true, laidLooks := .later }
def MacCodesUptoCardSaid : Prop := Claim7.holds Tryd.pinned (.plain (OpenSpec.upto macCodesSpec)) macCodesUptoCard

/-- THE SECOND FORM's CARD OF 'wicketmanlaw03.MacIdeal'. -/
def macIdealUptoCard : Claim7 := { stood := { row := macIdealUptoRow, standIns := [], harness := (true, "b988a9d1c63987ffe78da5947ac5adf058c3d76bac58b729235e183bf670bba7"), looks := false }, kinds := [], alts := [], laidByText := true, laidKinds := [.data, .data], laidTests := true, laidLooks := .later }
def MacIdealUptoCardSaid : Prop := Claim7.holds Tryd.pinned (.plain (OpenSpec.upto macIdealSpec)) macIdealUptoCard

/-- THE SECOND FORM's CARD OF 'wicketmanlaw03.MacKeys'. -/
def macKeysUptoCard : Claim7 := { stood := { row := macKeysUptoRow, standIns := [], harness := (true, "b988a9d1c63987ffe78da5947ac5adf058c3d76bac58b729235e183bf670bba7"), looks := false }, kinds := [], alts := [], laidByText := true, laidKinds := [.data, .data], laidTests := true, laidLooks := .later }
def MacKeysUptoCardSaid : Prop := Claim7.holds Tryd.pinned (.plain (OpenSpec.upto macKeysSpec)) macKeysUptoCard

/-- THE SECOND FORM's CARD OF 'wicketmanlaw03.MacProves'. -/
def macProvesUptoCard : Claim7 := { stood := { row := macProvesUptoRow, standIns := [], harness := (true, "b988a9d1c63987ffe78da5947ac5adf058c3d76bac58b729235e183bf670bba7"), looks := false }, kinds := [], alts := [], laidByText := true, laidKinds := [.data, .data], laidTests := true, laidLooks := .later }
def MacProvesUptoCardSaid : Prop := Claim7.holds Tryd.pinned (.plain (OpenSpec.upto macProvesSpec)) macProvesUptoCard

/-- THE SECOND FORM's CARD OF 'wicketmanlaw03.MacSteps'. -/
def macStepsUptoCard : Claim7 := { stood := { row := macStepsUptoRow, standIns := [], harness := (true, "b988a9d1c63987ffe78da5947ac5adf058c3d76bac58b729235e183bf670bba7"), looks := false }, kinds := [], alts := [], laidByText := true, laidKinds := [.data, .data], laidTests := true, laidLooks := .later }
def MacStepsUptoCardSaid : Prop := Claim7.holds Tryd.pinned (.plain (OpenSpec.upto macStepsSpec)) macStepsUptoCard

/-- THE SECOND FORM's CARD OF 'wicketmanlaw03.MacApart'. -/
def macApartUptoCard : Claim7 := { stood := { row := macApartUptoRow, standIns := [], harness := (true, "b988a9d1c63987ffe78da5947ac5adf058c3d76bac58b729235e183bf670bba7"), looks := false }, kinds := [], alts := [], laidByText := true, laidKinds := [.data, .data], laidTests := true, laidLooks := .later }
def MacApartUptoCardSaid : Prop := Claim7.holds Tryd.pinned (.plain (OpenSpec.upto macApartSpec)) macApartUptoCard

/-- THE SECOND FORM's CARD OF 'wicketmanlaw03.MacOrder'. -/
def macOrderUptoCard : Claim7 := { stood := { row := macOrderUptoRow, standIns := [], harness := (true, "b988a9d1c63987ffe78da5947ac5adf058c3d76bac58b729235e183bf670bba7"), looks := false }, kinds := [], alts := [], laidByText := true, laidKinds := [.data, .data], laidTests := true, laidLooks := .later }
def MacOrderUptoCardSaid : Prop := Claim7.holds Tryd.pinned (.plain (OpenSpec.upto macOrderSpec)) macOrderUptoCard
end Rows
end Go.Proofs.YtigocnaminkodaaDoor
