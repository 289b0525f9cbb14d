/-
  DERIVED. GIVEN WITH THE SEED: THE CARDS: each row of YtbojigimldfghaaDoorRows.lean that lists a variable, with what it lists TIED to the program's text (the seventh form; the later family's looks); each row that meets fmt, with fmt's text TOLD by the authors' own Lean function (tested against real Go, not proved from fmt's source: count such statements apart). THE CARD IS WHAT COUNTS. Prove the row's statement (the work); the ties are given (YtbojigimldfghaaDoorTie.lean); close each card by the builder's one call (the guide's Derived/Test/ToyasCard.lean, 'card_holds'). Laid BY PROGRAM, IN A SANDBOX (cutbox-door.mjs). By AI agents, Wed Nov 11 2026. No macro, syntax, notation, axiom, sorry.
-/
import Derived.Test.YtbojigimldfghaaDoorRows
import GoSem.ClaimSeven
namespace Go.Proofs.YtbojigimldfghaaDoor
namespace Rows

/-- THE TIED CARD OF 'wicketmanlaw09.HttpParses'. -/
def httpParsesCard : Claim7 := { stood := { row := httpParsesRow, standIns := [], harness := (true, "d3ed3c1bcd7dd4068fc9c1b564fa4b6062e9e6a4ac07150f18a5cc74c1e78905"), looks := true }, kinds := [], alts := [], laidByText := true, laidKinds := [.data, .pinned], laidTests := true, laidLooks := .later }
def HttpParsesCardSaid : Prop := Claim7.holds Tryd.pinned (.plain (OpenSpec.ofChange httpParsesSpec)) httpParsesCard

/-- THE TIED CARD OF 'wicketmanlaw09.HttpPrints'. -/
def httpPrintsCard : Claim7 := { stood := { row := httpPrintsRow, standIns := [], harness := (true, "d3ed3c1bcd7dd4068fc9c1b564fa4b6062e9e6a4ac07150f18a5cc74c1e78905"), looks := true }, kinds := [], alts := [], laidByText := true, laidKinds := [.data, .pinned], laidTests := true, laidLooks := .later }
def HttpPrintsCardSaid : Prop := Claim7.holds Tryd.pinned (.plain (OpenSpec.ofChange httpPrintsSpec)) httpPrintsCard

/-- THE TIED CARD OF 'wicketmanlaw09.HttpBack'. -/
def httpBackCard : Claim7 := { stood := { row := httpBackRow, standIns := [], harness := (true, "d3ed3c1bcd7dd4068fc9c1b564fa4b6062e9e6a4ac07150f18a5cc74c1e78905"), looks := true }, kinds := [], alts := [], laidByText := true, laidKinds := [.data, .pinned], laidTests := true, laidLooks := .later }
def HttpBackCardSaid : Prop := Claim7.holds Tryd.pinned (.plain (OpenSpec.ofChange httpBackSpec)) httpBackCard

/-- THE TIED CARD OF 'wicketmanlaw09.HttpSmuggles'. -/
def httpSmugglesCard : Claim7 := { stood := { row := httpSmugglesRow, standIns := [], harness := (true, "d3ed3c1bcd7dd4068fc9c1b564fa4b6062e9e6a4ac07150f18a5cc74c1e78905"), looks := true }, kinds := [], alts := [], laidByText := true, laidKinds := [.data, .pinned], laidTests := true, laidLooks := .later }
def HttpSmugglesCardSaid : Prop := Claim7.holds Tryd.pinned (.plain (OpenSpec.ofChange httpSmugglesSpec)) httpSmugglesCard

/-- THE TIED CARD OF 'wicketmanlaw09.HttpMost'. -/
def httpMostCard : Claim7 := { stood := { row := httpMostRow, standIns := [], harness := (true, "d3ed3c1bcd7dd4068fc9c1b564fa4b6062e9e6a4ac07150f18a5cc74c1e78905"), looks := true }, kinds := [], alts := [], laidByText := true, laidKinds := [.data, .pinned], laidTests := true, laidLooks := .later }
def HttpMostCardSaid : Prop := Claim7.holds Tryd.pinned (.plain (OpenSpec.ofChange httpMostSpec)) httpMostCard

/-- THE TIED CARD OF 'wicketmanlaw09.HttpOrder'. -/
def httpOrderCard : Claim7 := { stood := { row := httpOrderRow, standIns := [], harness := (true, "d3ed3c1bcd7dd4068fc9c1b564fa4b6062e9e6a4ac07150f18a5cc74c1e78905"), looks := true }, kinds := [], alts := [], laidByText := true, laidKinds := [.data, .pinned], laidTests := true, laidLooks := .later }
def HttpOrderCardSaid : Prop := Claim7.holds Tryd.pinned (.plain (OpenSpec.ofChange httpOrderSpec)) httpOrderCard

/-- THE TIED CARD OF 'wicketmanlaw09.HttpLines'. -/
def httpLinesCard : Claim7 := { stood := { row := httpLinesRow, standIns := [], harness := (true, "d3ed3c1bcd7dd4068fc9c1b564fa4b6062e9e6a4ac07150f18a5cc74c1e78905"), looks := true }, kinds := [], alts := [], laidByText := true, laidKinds := [.data, .pinned], laidTests := true, laidLooks := .later }
def HttpLinesCardSaid : Prop := Claim7.holds Tryd.pinned (.plain (OpenSpec.ofChange httpLinesSpec)) httpLinesCard

/-- THE TIED CARD OF 'wicketmanlaw09.HttpAnswer'. -/
def httpAnswerCard : Claim7 := { stood := { row := httpAnswerRow, standIns := [], harness := (true, "d3ed3c1bcd7dd4068fc9c1b564fa4b6062e9e6a4ac07150f18a5cc74c1e78905"), looks := true }, kinds := [], alts := [], laidByText := true, laidKinds := [.data, .pinned], laidTests := true, laidLooks := .later }
def HttpAnswerCardSaid : Prop := Claim7.holds Tryd.pinned (.plain (OpenSpec.ofChange httpAnswerSpec)) httpAnswerCard

/-- THE SECOND FORM's CARD OF 'wicketmanlaw09.HttpParses'. -/
def httpParsesUptoCard : Claim7 := { stood := { row := httpParsesUptoRow, standIns := [], harness := (true, "d3ed3c1bcd7dd4068fc9c1b564fa4b6062e9e6a4ac07150f18a5cc74c1e78905"), looks := true }, kinds := [], alts := [], laidByText := true, laidKinds := [.data, .pinned], laidTests := true, laidLooks := .later }
def HttpParsesUptoCardSaid : Prop := Claim7.holds Tryd.pinned (.plain (OpenSpec.upto httpParsesSpec)) httpParsesUptoCard

/-- THE SECOND FORM's CARD OF 'wicketmanlaw09.HttpPrints'. -/
def httpPrintsUptoCard : Claim7 := { stood := { row := httpPrintsUptoRow, standIns := [], harness := (true, "d3ed3c1bcd7dd4068fc9c1b564fa4b6062e9e6a4ac07150f18a5cc74c1e78905"), looks := true }, kinds := [], alts := [], laidByText := true, laidKinds := [.data, .pinned], laidTests := true, laidLooks := .later }
def HttpPrintsUptoCardSaid : Prop := Claim7.holds Tryd.pinned (.plain (OpenSpec.upto httpPrintsSpec)) httpPrintsUptoCard

/-- THE SECOND FORM's CARD OF 'wicketmanlaw09.HttpBack'. -/
def httpBackUptoCard : Claim7 := { stood := { row := httpBackUptoRow, standIns := [], harness := (true, "d3ed3c1bcd7dd4068fc9c1b564fa4b6062e9e6a4ac07150f18a5cc74c1e78905"), looks := true }, kinds := [], alts := [], laidByText := true, laidKinds := [.data, .pinned], laidTests := true, laidLooks := .later }
def HttpBackUptoCardSaid : Prop := Claim7.holds Tryd.pinned (.plain (OpenSpec.upto httpBackSpec)) httpBackUptoCard

/-- THE SECOND FORM's CARD OF 'wicketmanlaw09.HttpSmuggles'. -/
def httpSmugglesUptoCard : Claim7 := { stood := { row := httpSmugglesUptoRow, standIns := [], harness := (true, "d3ed3c1bcd7dd4068fc9c1b564fa4b6062e9e6a4ac07150f18a5cc74c1e78905"), looks := true }, kinds := [], alts := [], laidByText := true, laidKinds := [.data, .pinned], laidTests := true, laidLooks := .later }
def HttpSmugglesUptoCardSaid : Prop := Claim7.holds Tryd.pinned (.plain (OpenSpec.upto httpSmugglesSpec)) httpSmugglesUptoCard

/-- THE SECOND FORM's CARD OF 'wicketmanlaw09.HttpMost'. -/
def httpMostUptoCard : Claim7 := { stood := { row := httpMostUptoRow, standIns := [], harness := (true, "d3ed3c1bcd7dd4068fc9c1b564fa4b6062e9e6a4ac07150f18a5cc74c1e78905"), looks := true }, kinds := [], alts := [], laidByText := true, laidKinds := [.data, .pinned], laidTests := true, laidLooks := .later }
def HttpMostUptoCardSaid : Prop := Claim7.holds Tryd.pinned (.plain (OpenSpec.upto httpMostSpec)) httpMostUptoCard

/-- THE SECOND FORM's CARD OF 'wicketmanlaw09.HttpOrder'. -/
def httpOrderUptoCard : Claim7 := { stood := { row := httpOrderUptoRow, standIns := [], harness := (true, "d3ed3c1bcd7dd4068fc9c1b564fa4b6062e9e6a4ac07150f18a5cc74c1e78905"), looks := true }, kinds := [], alts := [], laidByText := true, laidKinds := [.data, .pinned], laidTests := true, laidLooks := .later }
def HttpOrderUptoCardSaid : Prop := Claim7.holds Tryd.pinned (.plain (OpenSpec.upto httpOrderSpec)) httpOrderUptoCard

/-- THE SECOND FORM's CARD OF 'wicketmanlaw09.HttpLines'. -/
def httpLinesUptoCard : Claim7 := { stood := { row := httpLinesUptoRow, standIns := [], harness := (true, "d3ed3c1bcd7dd4068fc9c1b564fa4b6062e9e6a4ac07150f18a5cc74c1e78905"), looks := true }, kinds := [], alts := [], laidByText := true, laidKinds := [.data, .pinned], laidTests := true, laidLooks := .later }
def HttpLinesUptoCardSaid : Prop := Claim7.holds Tryd.pinned (.plain (OpenSpec.upto httpLinesSpec)) httpLinesUptoCard

/-- THE SECOND FORM's CARD OF 'wicketmanlaw09.HttpAnswer'. -/
def httpAnswerUptoCard : Claim7 := { stood := { row := httpAnswerUptoRow, standIns := [], harness := (true, "d3ed3c1bcd7dd4068fc9c1b564fa4b6062e9e6a4ac07150f18a5cc74c1e78905"), looks := true }, kinds := [], alts := [], laidByText := true, laidKinds := [.data, .pinned], laidTests := true, laidLooks := .later }
def HttpAnswerUptoCardSaid : Prop := Claim7.holds Tryd.pinned (.plain (OpenSpec.upto httpAnswerSpec)) httpAnswerUptoCard
end Rows
end Go.Proofs.YtbojigimldfghaaDoor
