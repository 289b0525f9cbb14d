/-
  No cell of these rows narrows 'for every input' (looked for: loops, veiled, ifaces, maps, wideKeys, modest, calm, conditions, laid).
  DERIVED. THE GIVEN ROWS OF THIS SEAT. 6 by the template 'for every input the law returns true; each argument reads behind the call as it read before'; 0 by the template 'total and deterministic' (their statements: YtllimlkifggakaaTotals.lean).
  GIVEN WITH THE SEED: the statements are not yours to turn. If you find one false, say at which input.
  Laid BY PROGRAM, IN A SANDBOX (cutbox-rows.mjs): the forced cells as the released guide's own fill.sh prints them over the translation 961243481e2eccdb… (all of the seat's roots in one cut). By AI agents, Wed Nov 11 2026. No macro, syntax, notation, axiom, sorry.
-/
import Derived.Test.YtllimlkifggakaaChecked
import GoSem.Claim
import GoSem.ClaimJoined
import GoSem.ClaimMapViews
import Derived.JoinedTies
import Derived.KernelRfl
namespace Go.Proofs.Ytllimlkifggakaa
/- THE CELL 'sum', in the pinned program and in every row, IS THE sha256 OF THE DUMP (.gsa) THAT YtllimlkifggakaaProg.lean LOADS. Nothing in Lean hashes anything: it is a label: what it is worth is what the hold of that sum in a sandbox is worth. -/
noncomputable def Try.pinned : Pinned := { name := "ytllimlkifggakaa", sum := "961243481e2eccdba483a39bd2127c164a54ac95df44d1752c8c5f75c211553e", checked := Try.checked }
namespace Rows
def none {H : Type} : Left H := { results := [], args := [] }

/-- 'wicketmanlaw06.TextAsks': WHATEVER THE INPUT: true; the input reads as it did. -/
def textAsksSpec : ChangeSpec := { name := "textAsks", fn := fun _ => fun
  | [d1, d2] => { results := [.lit (.bool true)], args := [d1, d2] }
  | _ => none }
def textAsksRow : OpenClaim := { program := "ytllimlkifggakaa", sum := "961243481e2eccdba483a39bd2127c164a54ac95df44d1752c8c5f75c211553e", func := "wicketman/wicketmanlaw06.TextAsks", spec := "textAsks", inPlace := ["internal/abi.NoEscape"], unfollowed := true, recurses := true, apart := false }
def TextAsksSaid : Prop := textAsksRow.holds Try.pinned (OpenSpec.ofChange textAsksSpec)

/-- ITS FALSE NEIGHBOUR: 'it returns false'. Refute it at one input. -/
def textAsksWrong : ChangeSpec := { name := "textAsks", fn := fun _ => fun
  | [d1, d2] => { results := [.lit (.bool false)], args := [d1, d2] }
  | _ => none }
def TextAsksWrongFalsely : Prop := textAsksRow.holds Try.pinned (OpenSpec.ofChange textAsksWrong)

/-- 'wicketmanlaw06.TextRunes': WHATEVER THE INPUT: true; the input reads as it did. -/
def textRunesSpec : ChangeSpec := { name := "textRunes", fn := fun _ => fun
  | [d1, d2] => { results := [.lit (.bool true)], args := [d1, d2] }
  | _ => none }
def textRunesRow : OpenClaim := { program := "ytllimlkifggakaa", sum := "961243481e2eccdba483a39bd2127c164a54ac95df44d1752c8c5f75c211553e", func := "wicketman/wicketmanlaw06.TextRunes", spec := "textRunes", inPlace := ["internal/abi.NoEscape"], unfollowed := true, recurses := true, apart := false }
def TextRunesSaid : Prop := textRunesRow.holds Try.pinned (OpenSpec.ofChange textRunesSpec)

/-- ITS FALSE NEIGHBOUR: 'it returns false'. Refute it at one input. -/
def textRunesWrong : ChangeSpec := { name := "textRunes", fn := fun _ => fun
  | [d1, d2] => { results := [.lit (.bool false)], args := [d1, d2] }
  | _ => none }
def TextRunesWrongFalsely : Prop := textRunesRow.holds Try.pinned (OpenSpec.ofChange textRunesWrong)

/-- 'wicketmanlaw06.TextSafe': WHATEVER THE INPUT: true; the input reads as it did. -/
def textSafeSpec : ChangeSpec := { name := "textSafe", fn := fun _ => fun
  | [d1, d2, d3] => { results := [.lit (.bool true)], args := [d1, d2, d3] }
  | _ => none }
def textSafeRow : OpenClaim := { program := "ytllimlkifggakaa", sum := "961243481e2eccdba483a39bd2127c164a54ac95df44d1752c8c5f75c211553e", func := "wicketman/wicketmanlaw06.TextSafe", spec := "textSafe", inPlace := ["internal/abi.NoEscape"], unfollowed := true, recurses := true, apart := false }
def TextSafeSaid : Prop := textSafeRow.holds Try.pinned (OpenSpec.ofChange textSafeSpec)

/-- ITS FALSE NEIGHBOUR: 'it returns false'. Refute it at one input. -/
def textSafeWrong : ChangeSpec := { name := "textSafe", fn := fun _ => fun
  | [d1, d2, d3] => { results := [.lit (.bool false)], args := [d1, d2, d3] }
  | _ => none }
def TextSafeWrongFalsely : Prop := textSafeRow.holds Try.pinned (OpenSpec.ofChange textSafeWrong)

/-- 'wicketmanlaw06.TextBounds': WHATEVER THE INPUT: true; the input reads as it did. -/
def textBoundsSpec : ChangeSpec := { name := "textBounds", fn := fun _ => fun
  | [d1, d2] => { results := [.lit (.bool true)], args := [d1, d2] }
  | _ => none }
def textBoundsRow : OpenClaim := { program := "ytllimlkifggakaa", sum := "961243481e2eccdba483a39bd2127c164a54ac95df44d1752c8c5f75c211553e", func := "wicketman/wicketmanlaw06.TextBounds", spec := "textBounds", inPlace := ["internal/abi.NoEscape"], unfollowed := true, recurses := true, apart := false }
def TextBoundsSaid : Prop := textBoundsRow.holds Try.pinned (OpenSpec.ofChange textBoundsSpec)

/-- ITS FALSE NEIGHBOUR: 'it returns false'. Refute it at one input. -/
def textBoundsWrong : ChangeSpec := { name := "textBounds", fn := fun _ => fun
  | [d1, d2] => { results := [.lit (.bool false)], args := [d1, d2] }
  | _ => none }
def TextBoundsWrongFalsely : Prop := textBoundsRow.holds Try.pinned (OpenSpec.ofChange textBoundsWrong)

/-- 'wicketmanlaw06.TextFirst': WHATEVER THE INPUT: true; the input reads as it did. -/
def textFirstSpec : ChangeSpec := { name := "textFirst", fn := fun _ => fun
  | [d1, d2] => { results := [.lit (.bool true)], args := [d1, d2] }
  | _ => none }
def textFirstRow : OpenClaim := { program := "ytllimlkifggakaa", sum := "961243481e2eccdba483a39bd2127c164a54ac95df44d1752c8c5f75c211553e", func := "wicketman/wicketmanlaw06.TextFirst", spec := "textFirst", inPlace := ["internal/abi.NoEscape"], unfollowed := true, recurses := true, apart := false }
def TextFirstSaid : Prop := textFirstRow.holds Try.pinned (OpenSpec.ofChange textFirstSpec)

/-- ITS FALSE NEIGHBOUR: 'it returns false'. Refute it at one input. -/
def textFirstWrong : ChangeSpec := { name := "textFirst", fn := fun _ => fun
  | [d1, d2] => { results := [.lit (.bool false)], args := [d1, d2] }
  | _ => none }
def TextFirstWrongFalsely : Prop := textFirstRow.holds Try.pinned (OpenSpec.ofChange textFirstWrong)

/-- 'wicketmanlaw06.TextLong': WHATEVER THE INPUT: true; the input reads as it did. -/
def textLongSpec : ChangeSpec := { name := "textLong", fn := fun _ => fun
  | [d] => { results := [.lit (.bool true)], args := [d] }
  | _ => none }
def textLongRow : OpenClaim := { program := "ytllimlkifggakaa", sum := "961243481e2eccdba483a39bd2127c164a54ac95df44d1752c8c5f75c211553e", func := "wicketman/wicketmanlaw06.TextLong", spec := "textLong", inPlace := ["internal/abi.NoEscape"], unfollowed := true, recurses := true, apart := false }
def TextLongSaid : Prop := textLongRow.holds Try.pinned (OpenSpec.ofChange textLongSpec)

/-- ITS FALSE NEIGHBOUR: 'it returns false'. Refute it at one input. -/
def textLongWrong : ChangeSpec := { name := "textLong", fn := fun _ => fun
  | [d] => { results := [.lit (.bool false)], args := [d] }
  | _ => none }
def TextLongWrongFalsely : Prop := textLongRow.holds Try.pinned (OpenSpec.ofChange textLongWrong)

/- THE SECOND FORM. 'bulk': how many values and letters a reading holds, each counted each time it is reached (what is shared counts as often as it is met; a slice's spare places count too). A statement '..UptoSaid' is the law's where the arguments, and the package variables that the reading takes, are together of bulk at most 1048576: NARROWER than '..Said'. Prove '..Said' where nothing that the law and all that it calls make is longer than what came in: it says more and counts as full. Else prove '..UptoSaid'. A law counts once. -/
mutual
def uptoBulk {H : Type} : DataW H → Nat
  | .lit (.string bytes) => bytes.length + 1
  | .lit _ => 1
  | .nil => 1
  | .ptr d => uptoBulk d + 1
  | .slice elems spare => uptoBulkAll elems + uptoBulkAll spare + 1
  | .agg parts => uptoBulkAll parts + 1
  | .iface _ d => uptoBulk d + 1
  | .map entries => uptoBulkEntries entries + 1
  | .held _ => 1
def uptoBulkAll {H : Type} : List (DataW H) → Nat
  | [] => 0
  | d :: r => uptoBulk d + uptoBulkAll r
def uptoBulkEntries {H : Type} : List (Lit × DataW H) → Nat
  | [] => 0
  | x :: r => uptoBulkEntry x + uptoBulkEntries r
def uptoBulkEntry {H : Type} : Lit × DataW H → Nat
  | (.string bytes, d) => bytes.length + uptoBulk d + 1
  | (_, d) => uptoBulk d + 1
 end
def uptoSmall : (H : Type) → List (DataW H) → Bool := fun _ ds => decide (uptoBulkAll ds ≤ 1048576)
def OpenSpec.upto (s : _root_.Go.ChangeSpec) : _root_.Go.OpenSpec := { _root_.Go.OpenSpec.ofChange s with cond := some uptoSmall }

/-- 'wicketmanlaw06.TextAsks', WHERE WHAT IT READS IS OF BULK AT MOST 1048576: true; the input reads as it did. -/
def textAsksUptoRow : OpenClaim := { program := "ytllimlkifggakaa", sum := "961243481e2eccdba483a39bd2127c164a54ac95df44d1752c8c5f75c211553e", func := "wicketman/wicketmanlaw06.TextAsks", spec := "textAsks", inPlace := ["internal/abi.NoEscape"], unfollowed := true, recurses := true, apart := false, narrowed := true }
def TextAsksUptoSaid : Prop := textAsksUptoRow.holds Try.pinned (OpenSpec.upto textAsksSpec)

/-- 'wicketmanlaw06.TextRunes', WHERE WHAT IT READS IS OF BULK AT MOST 1048576: true; the input reads as it did. -/
def textRunesUptoRow : OpenClaim := { program := "ytllimlkifggakaa", sum := "961243481e2eccdba483a39bd2127c164a54ac95df44d1752c8c5f75c211553e", func := "wicketman/wicketmanlaw06.TextRunes", spec := "textRunes", inPlace := ["internal/abi.NoEscape"], unfollowed := true, recurses := true, apart := false, narrowed := true }
def TextRunesUptoSaid : Prop := textRunesUptoRow.holds Try.pinned (OpenSpec.upto textRunesSpec)

/-- 'wicketmanlaw06.TextSafe', WHERE WHAT IT READS IS OF BULK AT MOST 1048576: true; the input reads as it did. -/
def textSafeUptoRow : OpenClaim := { program := "ytllimlkifggakaa", sum := "961243481e2eccdba483a39bd2127c164a54ac95df44d1752c8c5f75c211553e", func := "wicketman/wicketmanlaw06.TextSafe", spec := "textSafe", inPlace := ["internal/abi.NoEscape"], unfollowed := true, recurses := true, apart := false, narrowed := true }
def TextSafeUptoSaid : Prop := textSafeUptoRow.holds Try.pinned (OpenSpec.upto textSafeSpec)

/-- 'wicketmanlaw06.TextBounds', WHERE WHAT IT READS IS OF BULK AT MOST 1048576: true; the input reads as it did. -/
def textBoundsUptoRow : OpenClaim := { program := "ytllimlkifggakaa", sum := "961243481e2eccdba483a39bd2127c164a54ac95df44d1752c8c5f75c211553e", func := "wicketman/wicketmanlaw06.TextBounds", spec := "textBounds", inPlace := ["internal/abi.NoEscape"], unfollowed := true, recurses := true, apart := false, narrowed := true }
def TextBoundsUptoSaid : Prop := textBoundsUptoRow.holds Try.pinned (OpenSpec.upto textBoundsSpec)

/-- 'wicketmanlaw06.TextFirst', WHERE WHAT IT READS IS OF BULK AT MOST 1048576: true; the input reads as it did. -/
def textFirstUptoRow : OpenClaim := { program := "ytllimlkifggakaa", sum := "961243481e2eccdba483a39bd2127c164a54ac95df44d1752c8c5f75c211553e", func := "wicketman/wicketmanlaw06.TextFirst", spec := "textFirst", inPlace := ["internal/abi.NoEscape"], unfollowed := true, recurses := true, apart := false, narrowed := true }
def TextFirstUptoSaid : Prop := textFirstUptoRow.holds Try.pinned (OpenSpec.upto textFirstSpec)

/-- 'wicketmanlaw06.TextLong', WHERE WHAT IT READS IS OF BULK AT MOST 1048576: true; the input reads as it did. -/
def textLongUptoRow : OpenClaim := { program := "ytllimlkifggakaa", sum := "961243481e2eccdba483a39bd2127c164a54ac95df44d1752c8c5f75c211553e", func := "wicketman/wicketmanlaw06.TextLong", spec := "textLong", inPlace := ["internal/abi.NoEscape"], unfollowed := true, recurses := true, apart := false, narrowed := true }
def TextLongUptoSaid : Prop := textLongUptoRow.holds Try.pinned (OpenSpec.upto textLongSpec)

end Rows
end Go.Proofs.Ytllimlkifggakaa
