/-
  DERIVED. GIVEN WITH THE SEED: THE CARDS: each row of YtflbdjlmkmmahaaDoorRows.lean that lists a variable, with what it lists TIED to the program's text (the seventh form; the later family's looks); each row that meets fmt, with fmt's text TOLD by the authors' own Lean function (tested against real Go, not proved from fmt's source: count such statements apart). THE CARD IS WHAT COUNTS. Prove the row's statement (the work); the ties are given (YtflbdjlmkmmahaaDoorTie.lean); close each card by the builder's one call (the guide's Derived/Test/ToyasCard.lean, 'card_holds'). Laid BY PROGRAM, IN A SANDBOX (cutbox-door.mjs). By AI agents, Wed Nov 11 2026. No macro, syntax, notation, axiom, sorry.
-/
import Derived.Test.YtflbdjlmkmmahaaDoorRows
import GoSem.ClaimSeven
namespace Go.Proofs.YtflbdjlmkmmahaaDoor
namespace Rows

/-- THE TIED CARD OF 'wicketmanlaw04.KdfHashes'. -/
def kdfHashesCard : Claim7 := { stood := { row := kdfHashesRow, standIns := [], harness := (true, "1a12156f6710ac46e988a5569830c2517ea82eb86b3f207f5f31f2c12658a944"), looks := false }, kinds := [], alts := [], laidByText := true, laidKinds := [.data, .data], laidTests := true, laidLooks := .later }
def KdfHashesCardSaid : Prop := Claim7.holds Tryd.pinned (.plain (OpenSpec.ofChange kdfHashesSpec)) kdfHashesCard

/-- THE TIED CARD OF 'wicketmanlaw04.KdfMore'. -/
def kdfMoreCard : Claim7 := { stood := { row := kdfMoreRow, standIns := [], harness := (true, "1a12156f6710ac46e988a5569830c2517ea82eb86b3f207f5f31f2c12658a944"), looks := false }, kinds := [], alts := [], laidByText := true, laidKinds := [.data, .data], laidTests := true, laidLooks := .later }
def KdfMoreCardSaid : Prop := Claim7.holds Tryd.pinned (.plain (OpenSpec.ofChange kdfMoreSpec)) kdfMoreCard

/-- THE TIED CARD OF 'wicketmanlaw04.KdfRounds'. -/
def kdfRoundsCard : Claim7 := { stood := { row := kdfRoundsRow, standIns := [], harness := (true, "1a12156f6710ac46e988a5569830c2517ea82eb86b3f207f5f31f2c12658a944"), looks := false }, kinds := [], alts := [], laidByText := true, laidKinds := [.data, .data], laidTests := true, laidLooks := .later }
def KdfRoundsCardSaid : Prop := Claim7.holds Tryd.pinned (.plain (OpenSpec.ofChange kdfRoundsSpec)) kdfRoundsCard

/-- THE TIED CARD OF 'wicketmanlaw04.KdfApart'. -/
def kdfApartCard : Claim7 := { stood := { row := kdfApartRow, standIns := [], harness := (true, "1a12156f6710ac46e988a5569830c2517ea82eb86b3f207f5f31f2c12658a944"), looks := false }, kinds := [], alts := [], laidByText := true, laidKinds := [.data, .data], laidTests := true, laidLooks := .later }
def KdfApartCardSaid : Prop := Claim7.holds Tryd.pinned (.plain (OpenSpec.ofChange kdfApartSpec)) kdfApartCard

/-- THE TIED CARD OF 'wicketmanlaw04.KdfSalts'. -/
def kdfSaltsCard : Claim7 := { stood := { row := kdfSaltsRow, standIns := [], harness := (true, "1a12156f6710ac46e988a5569830c2517ea82eb86b3f207f5f31f2c12658a944"), looks := false }, kinds := [], alts := [], laidByText := true, laidKinds := [.data, .data], laidTests := true, laidLooks := .later }
def KdfSaltsCardSaid : Prop := Claim7.holds Tryd.pinned (.plain (OpenSpec.ofChange kdfSaltsSpec)) kdfSaltsCard

/-- THE SECOND FORM's CARD OF 'wicketmanlaw04.KdfHashes'. -/
def kdfHashesUptoCard : Claim7 := { stood := { row := kdfHashesUptoRow, standIns := [], harness := (true, "1a12156f6710ac46e988a5569830c2517ea82eb86b3f207f5f31f2c12658a944"), looks := false }, kinds := [], alts := [], laidByText := true, laidKinds := [.data, .data], laidTests := true, laidLooks := .later }
def KdfHashesUptoCardSaid : Prop := Claim7.holds Tryd.pinned (.plain (OpenSpec.upto kdfHashesSpec)) kdfHashesUptoCard

/-- THE SECOND FORM's CARD OF 'wicketmanlaw04.KdfMore'. -/
def kdfMoreUptoCard : Claim7 := { stood := { row := kdfMoreUptoRow, standIns := [], harness := (true, "1a12156f6710ac46e988a5569830c2517ea82eb86b3f207f5f31f2c12658a944"), looks := false }, kinds := [], alts := [], laidByText := true, laidKinds := [.data, .data], laidTests := true, laidLooks := .later }
def KdfMoreUptoCardSaid : Prop := Claim7.holds Tryd.pinned (.plain (OpenSpec.upto kdfMoreSpec)) kdfMoreUptoCard

/-- THE SECOND FORM's CARD OF 'wicketmanlaw04.KdfRounds'. -/
def kdfRoundsUptoCard : Claim7 := { stood := { row := kdfRoundsUptoRow, standIns := [], harness := (true, "1a12156f6710ac46e988a5569830c2517ea82eb86b3f207f5f31f2c12658a944"), looks := false }, kinds := [], alts := [], laidByText := true, laidKinds := [.data, .data], laidTests := true, laidLooks := .later }
def KdfRoundsUptoCardSaid : Prop := Claim7.holds Tryd.pinned (.plain (OpenSpec.upto kdfRoundsSpec)) kdfRoundsUptoCard

/-- THE SECOND FORM's CARD OF 'wicketmanlaw04.KdfApart'. -/
def kdfApartUptoCard : Claim7 := { stood := { row := kdfApartUptoRow, standIns := [], harness := (true, "1a12156f6710ac46e988a5569830c2517ea82eb86b3f207f5f31f2c12658a944"), looks := false }, kinds := [], alts := [], laidByText := true, laidKinds := [.data, .data], laidTests := true, laidLooks := .later }
def KdfApartUptoCardSaid : Prop := Claim7.holds Tryd.pinned (.plain (OpenSpec.upto kdfApartSpec)) kdfApartUptoCard

/-- THE SECOND FORM's CARD OF 'wicketmanlaw04.KdfSalts'. -/
def kdfSaltsUptoCard : Claim7 := { stood := { row := kdfSaltsUptoRow, standIns := [], harness := (true, "1a12156f6710ac46e988a5569830c2517ea82eb86b3f207f5f31f2c12658a944"), looks := false }, kinds := [], alts := [], laidByText := true, laidKinds := [.data, .data], laidTests := true, laidLooks := .later }
def KdfSaltsUptoCardSaid : Prop := Claim7.holds Tryd.pinned (.plain (OpenSpec.upto kdfSaltsSpec)) kdfSaltsUptoCard
end Rows
end Go.Proofs.YtflbdjlmkmmahaaDoor
