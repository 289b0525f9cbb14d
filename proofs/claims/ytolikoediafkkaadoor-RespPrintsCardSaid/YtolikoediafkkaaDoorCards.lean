/-
  DERIVED. GIVEN WITH THE SEED: THE CARDS: each row of YtolikoediafkkaaDoorRows.lean that lists a variable, with what it lists TIED to the program's text (the seventh form; the later family's looks); each row that meets fmt, with fmt's text TOLD by the authors' own Lean function (tested against real Go, not proved from fmt's source: count such statements apart). THE CARD IS WHAT COUNTS. Prove the row's statement (the work); the ties are given (YtolikoediafkkaaDoorTie.lean); close each card by the builder's one call (the guide's Derived/Test/ToyasCard.lean, 'card_holds'). Laid BY PROGRAM, IN A SANDBOX (cutbox-door.mjs). By AI agents, Wed Nov 11 2026. No macro, syntax, notation, axiom, sorry.
-/
import Derived.Test.YtolikoediafkkaaDoorRows
import GoSem.ClaimSeven
namespace Go.Proofs.YtolikoediafkkaaDoor
namespace Rows

/-- THE TIED CARD OF 'wicketmanlaw10.RespPrints'. -/
def respPrintsCard : Claim7 := { stood := { row := respPrintsRow, standIns := [], harness := (true, "f2104c0afa830193ca7849ae80d5b73b4d3d00d1a1f0b44ea57d69799f21a391"), looks := false }, kinds := [], alts := [], laidByText := true, laidKinds := [.data, .data, .data, .data, .pinned], laidTests := true, laidLooks := .later }
def RespPrintsCardSaid : Prop := Claim7.holds Tryd.pinned (.plain (OpenSpec.ofChange respPrintsSpec)) respPrintsCard

/-- THE TIED CARD OF 'wicketmanlaw10.RespPages'. -/
def respPagesCard : Claim7 := { stood := { row := respPagesRow, standIns := [], harness := (true, "f2104c0afa830193ca7849ae80d5b73b4d3d00d1a1f0b44ea57d69799f21a391"), looks := false }, kinds := [], alts := [], laidByText := true, laidKinds := [.data, .data, .data, .data, .pinned], laidTests := true, laidLooks := .later }
def RespPagesCardSaid : Prop := Claim7.holds Tryd.pinned (.plain (OpenSpec.ofChange respPagesSpec)) respPagesCard

/-- THE TIED CARD OF 'wicketmanlaw10.RespBack'. -/
def respBackCard : Claim7 := { stood := { row := respBackRow, standIns := [], harness := (true, "f2104c0afa830193ca7849ae80d5b73b4d3d00d1a1f0b44ea57d69799f21a391"), looks := false }, kinds := [], alts := [], laidByText := true, laidKinds := [.data, .data, .data, .data, .pinned], laidTests := true, laidLooks := .later }
def RespBackCardSaid : Prop := Claim7.holds Tryd.pinned (.plain (OpenSpec.ofChange respBackSpec)) respBackCard

/-- THE TIED CARD OF 'wicketmanlaw10.RespOne'. -/
def respOneCard : Claim7 := { stood := { row := respOneRow, standIns := [], harness := (true, "f2104c0afa830193ca7849ae80d5b73b4d3d00d1a1f0b44ea57d69799f21a391"), looks := false }, kinds := [], alts := [], laidByText := true, laidKinds := [.data, .data, .data, .data, .pinned], laidTests := true, laidLooks := .later }
def RespOneCardSaid : Prop := Claim7.holds Tryd.pinned (.plain (OpenSpec.ofChange respOneSpec)) respOneCard

/-- THE TIED CARD OF 'wicketmanlaw10.RespMany'. -/
def respManyCard : Claim7 := { stood := { row := respManyRow, standIns := [], harness := (true, "f2104c0afa830193ca7849ae80d5b73b4d3d00d1a1f0b44ea57d69799f21a391"), looks := false }, kinds := [], alts := [], laidByText := true, laidKinds := [.data, .data, .data, .data, .pinned], laidTests := true, laidLooks := .later }
def RespManyCardSaid : Prop := Claim7.holds Tryd.pinned (.plain (OpenSpec.ofChange respManySpec)) respManyCard

/-- THE TIED CARD OF 'wicketmanlaw10.RespFields'. -/
def respFieldsCard : Claim7 := { stood := { row := respFieldsRow, standIns := [], harness := (true, "f2104c0afa830193ca7849ae80d5b73b4d3d00d1a1f0b44ea57d69799f21a391"), looks := false }, kinds := [], alts := [], laidByText := true, laidKinds := [.data, .data, .data, .data, .pinned], laidTests := true, laidLooks := .later }
def RespFieldsCardSaid : Prop := Claim7.holds Tryd.pinned (.plain (OpenSpec.ofChange respFieldsSpec)) respFieldsCard

/-- THE SECOND FORM's CARD OF 'wicketmanlaw10.RespPrints'. -/
def respPrintsUptoCard : Claim7 := { stood := { row := respPrintsUptoRow, standIns := [], harness := (true, "f2104c0afa830193ca7849ae80d5b73b4d3d00d1a1f0b44ea57d69799f21a391"), looks := false }, kinds := [], alts := [], laidByText := true, laidKinds := [.data, .data, .data, .data, .pinned], laidTests := true, laidLooks := .later }
def RespPrintsUptoCardSaid : Prop := Claim7.holds Tryd.pinned (.plain (OpenSpec.upto respPrintsSpec)) respPrintsUptoCard

/-- THE SECOND FORM's CARD OF 'wicketmanlaw10.RespPages'. -/
def respPagesUptoCard : Claim7 := { stood := { row := respPagesUptoRow, standIns := [], harness := (true, "f2104c0afa830193ca7849ae80d5b73b4d3d00d1a1f0b44ea57d69799f21a391"), looks := false }, kinds := [], alts := [], laidByText := true, laidKinds := [.data, .data, .data, .data, .pinned], laidTests := true, laidLooks := .later }
def RespPagesUptoCardSaid : Prop := Claim7.holds Tryd.pinned (.plain (OpenSpec.upto respPagesSpec)) respPagesUptoCard

/-- THE SECOND FORM's CARD OF 'wicketmanlaw10.RespBack'. -/
def respBackUptoCard : Claim7 := { stood := { row := respBackUptoRow, standIns := [], harness := (true, "f2104c0afa830193ca7849ae80d5b73b4d3d00d1a1f0b44ea57d69799f21a391"), looks := false }, kinds := [], alts := [], laidByText := true, laidKinds := [.data, .data, .data, .data, .pinned], laidTests := true, laidLooks := .later }
def RespBackUptoCardSaid : Prop := Claim7.holds Tryd.pinned (.plain (OpenSpec.upto respBackSpec)) respBackUptoCard

/-- THE SECOND FORM's CARD OF 'wicketmanlaw10.RespOne'. -/
def respOneUptoCard : Claim7 := { stood := { row := respOneUptoRow, standIns := [], harness := (true, "f2104c0afa830193ca7849ae80d5b73b4d3d00d1a1f0b44ea57d69799f21a391"), looks := false }, kinds := [], alts := [], laidByText := true, laidKinds := [.data, .data, .data, .data, .pinned], laidTests := true, laidLooks := .later }
def RespOneUptoCardSaid : Prop := Claim7.holds Tryd.pinned (.plain (OpenSpec.upto respOneSpec)) respOneUptoCard

/-- THE SECOND FORM's CARD OF 'wicketmanlaw10.RespMany'. -/
def respManyUptoCard : Claim7 := { stood := { row := respManyUptoRow, standIns := [], harness := (true, "f2104c0afa830193ca7849ae80d5b73b4d3d00d1a1f0b44ea57d69799f21a391"), looks := false }, kinds := [], alts := [], laidByText := true, laidKinds := [.data, .data, .data, .data, .pinned], laidTests := true, laidLooks := .later }
def RespManyUptoCardSaid : Prop := Claim7.holds Tryd.pinned (.plain (OpenSpec.upto respManySpec)) respManyUptoCard

/-- THE SECOND FORM's CARD OF 'wicketmanlaw10.RespFields'. -/
def respFieldsUptoCard : Claim7 := { stood := { row := respFieldsUptoRow, standIns := [], harness := (true, "f2104c0afa830193ca7849ae80d5b73b4d3d00d1a1f0b44ea57d69799f21a391"), looks := false }, kinds := [], alts := [], laidByText := true, laidKinds := [.data, .data, .data, .data, .pinned], laidTests := true, laidLooks := .later }
def RespFieldsUptoCardSaid : Prop := Claim7.holds Tryd.pinned (.plain (OpenSpec.upto respFieldsSpec)) respFieldsUptoCard
end Rows
end Go.Proofs.YtolikoediafkkaaDoor
