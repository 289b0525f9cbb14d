/-
  NARROWER THAN 'FOR EVERY INPUT', by the rows' own cells (each row's printed sentence says how): HttpParses: laid · HttpPrints: laid · HttpBack: laid · HttpSmuggles: laid · HttpMost: laid · HttpOrder: laid · HttpLines: laid · HttpAnswer: laid.
  DERIVED. THE GIVEN ROWS OF THIS SEAT. 8 by the template 'for every input the law returns true; each argument reads behind the call as it read before'; 0 by the template 'total and deterministic' (their statements: YtbojigimldfghaaDoorTotals.lean).
  GIVEN WITH THE SEED: the statements are not yours to turn. If you find one false, say at which input.
  Laid BY PROGRAM, IN A SANDBOX (cutbox-rows.mjs): the forced cells as the released guide's own fill.sh prints them over the translation efff068bab5c9f52… (all of the seat's roots in one cut). By AI agents, Wed Nov 11 2026. No macro, syntax, notation, axiom, sorry.
-/
import Derived.Test.YtbojigimldfghaaDoorChecked
import GoSem.PinnedTables
import GoSem.Claim
import GoSem.ClaimJoined
import GoSem.ClaimMapViews
import Derived.JoinedTies
import Derived.KernelRfl
namespace Go.Proofs.YtbojigimldfghaaDoor
/- THE CELL 'sum', in the pinned program and in every row, IS THE sha256 OF THE DUMP (.gsa) THAT YtbojigimldfghaaDoorProg.lean LOADS. Nothing in Lean hashes anything: it is a label: what it is worth is what the hold of that sum in a sandbox is worth. -/
noncomputable def Tryd.pinned : Pinned := { name := "ytbojigimldfghaadoor", sum := "efff068bab5c9f5274b76a9b8ae5aa6a27c9b1bfb89ac434012c80d05dbbf048", checked := Tryd.checked }
namespace Rows
def none {H : Type} : Left H := { results := [], args := [] }

/- WHAT THE LISTED PACKAGE-LEVEL VARIABLES READ AS WHEN THE CALL BEGINS. Each datum BY PROGRAM (the guide's laid-datum.mjs) off the statement by which the dump's own 'gosem.cut.vars' lays the variable. In a bare row this is a premise. The card (YtbojigimldfghaaDoorCards.lean) ties it to the program's text. -/
def laid_unicode_utf8_acceptRanges {H : Type} : DataW H := .agg [.agg [.lit (.int .u8 128), .lit (.int .u8 191)], .agg [.lit (.int .u8 160), .lit (.int .u8 191)], .agg [.lit (.int .u8 128), .lit (.int .u8 159)], .agg [.lit (.int .u8 144), .lit (.int .u8 191)], .agg [.lit (.int .u8 128), .lit (.int .u8 143)], .agg [.lit (.int .u8 0), .lit (.int .u8 0)], .agg [.lit (.int .u8 0), .lit (.int .u8 0)], .agg [.lit (.int .u8 0), .lit (.int .u8 0)], .agg [.lit (.int .u8 0), .lit (.int .u8 0)], .agg [.lit (.int .u8 0), .lit (.int .u8 0)], .agg [.lit (.int .u8 0), .lit (.int .u8 0)], .agg [.lit (.int .u8 0), .lit (.int .u8 0)], .agg [.lit (.int .u8 0), .lit (.int .u8 0)], .agg [.lit (.int .u8 0), .lit (.int .u8 0)], .agg [.lit (.int .u8 0), .lit (.int .u8 0)], .agg [.lit (.int .u8 0), .lit (.int .u8 0)]]
/-- One of Go's own tables, pinned by name: the form's constant. -/
def laid_unicode_utf8_first : DataW Unit := Go.Pinned.utf8First

/-- 'wicketmanlaw09.HttpParses': WHATEVER THE INPUT: true; the input reads as it did. -/
def httpParsesSpec : ChangeSpec := { name := "httpParses", fn := fun _ => fun
  | [d1, d2, d3, d4, d5, d6] => { results := [.lit (.bool true)], args := [d1, d2, d3, d4, d5, d6] }
  | _ => none }
def httpParsesRow : OpenClaim := { program := "ytbojigimldfghaadoor", sum := "efff068bab5c9f5274b76a9b8ae5aa6a27c9b1bfb89ac434012c80d05dbbf048", func := "wicketman/wicketmanlaw09.HttpParses", spec := "httpParses", inPlace := ["internal/bytealg.IndexByte", "internal/bytealg.Index", "internal/bytealg.IndexByteString", "internal/bytealg.IndexString"], unfollowed := true, recurses := true, named := ["internal/bytealg.MaxLen", "unicode/utf8.first", "unicode/utf8.acceptRanges"], apart := false, laid := [("unicode/utf8.acceptRanges", laid_unicode_utf8_acceptRanges), ("unicode/utf8.first", laid_unicode_utf8_first)] }
def HttpParsesSaid : Prop := httpParsesRow.holds Tryd.pinned (OpenSpec.ofChange httpParsesSpec)

/-- ITS FALSE NEIGHBOUR: 'it returns false'. Refute it at one input. -/
def httpParsesWrong : ChangeSpec := { name := "httpParses", fn := fun _ => fun
  | [d1, d2, d3, d4, d5, d6] => { results := [.lit (.bool false)], args := [d1, d2, d3, d4, d5, d6] }
  | _ => none }
def HttpParsesWrongFalsely : Prop := httpParsesRow.holds Tryd.pinned (OpenSpec.ofChange httpParsesWrong)

/-- 'wicketmanlaw09.HttpPrints': WHATEVER THE INPUT: true; the input reads as it did. -/
def httpPrintsSpec : ChangeSpec := { name := "httpPrints", fn := fun _ => fun
  | [d1, d2, d3, d4] => { results := [.lit (.bool true)], args := [d1, d2, d3, d4] }
  | _ => none }
def httpPrintsRow : OpenClaim := { program := "ytbojigimldfghaadoor", sum := "efff068bab5c9f5274b76a9b8ae5aa6a27c9b1bfb89ac434012c80d05dbbf048", func := "wicketman/wicketmanlaw09.HttpPrints", spec := "httpPrints", inPlace := ["internal/bytealg.IndexByte", "internal/bytealg.Index", "internal/bytealg.IndexByteString", "internal/bytealg.IndexString"], unfollowed := true, recurses := true, named := ["internal/bytealg.MaxLen", "unicode/utf8.first", "unicode/utf8.acceptRanges"], apart := false, laid := [("unicode/utf8.acceptRanges", laid_unicode_utf8_acceptRanges), ("unicode/utf8.first", laid_unicode_utf8_first)] }
def HttpPrintsSaid : Prop := httpPrintsRow.holds Tryd.pinned (OpenSpec.ofChange httpPrintsSpec)

/-- ITS FALSE NEIGHBOUR: 'it returns false'. Refute it at one input. -/
def httpPrintsWrong : ChangeSpec := { name := "httpPrints", fn := fun _ => fun
  | [d1, d2, d3, d4] => { results := [.lit (.bool false)], args := [d1, d2, d3, d4] }
  | _ => none }
def HttpPrintsWrongFalsely : Prop := httpPrintsRow.holds Tryd.pinned (OpenSpec.ofChange httpPrintsWrong)

/-- 'wicketmanlaw09.HttpBack': WHATEVER THE INPUT: true; the input reads as it did. -/
def httpBackSpec : ChangeSpec := { name := "httpBack", fn := fun _ => fun
  | [d1, d2, d3, d4] => { results := [.lit (.bool true)], args := [d1, d2, d3, d4] }
  | _ => none }
def httpBackRow : OpenClaim := { program := "ytbojigimldfghaadoor", sum := "efff068bab5c9f5274b76a9b8ae5aa6a27c9b1bfb89ac434012c80d05dbbf048", func := "wicketman/wicketmanlaw09.HttpBack", spec := "httpBack", inPlace := ["internal/bytealg.IndexByte", "internal/bytealg.Index", "internal/bytealg.IndexByteString", "internal/bytealg.IndexString"], unfollowed := true, recurses := true, named := ["internal/bytealg.MaxLen", "unicode/utf8.first", "unicode/utf8.acceptRanges"], apart := false, laid := [("unicode/utf8.acceptRanges", laid_unicode_utf8_acceptRanges), ("unicode/utf8.first", laid_unicode_utf8_first)] }
def HttpBackSaid : Prop := httpBackRow.holds Tryd.pinned (OpenSpec.ofChange httpBackSpec)

/-- ITS FALSE NEIGHBOUR: 'it returns false'. Refute it at one input. -/
def httpBackWrong : ChangeSpec := { name := "httpBack", fn := fun _ => fun
  | [d1, d2, d3, d4] => { results := [.lit (.bool false)], args := [d1, d2, d3, d4] }
  | _ => none }
def HttpBackWrongFalsely : Prop := httpBackRow.holds Tryd.pinned (OpenSpec.ofChange httpBackWrong)

/-- 'wicketmanlaw09.HttpSmuggles': WHATEVER THE INPUT: true; the input reads as it did. -/
def httpSmugglesSpec : ChangeSpec := { name := "httpSmuggles", fn := fun _ => fun
  | [d1, d2, d3] => { results := [.lit (.bool true)], args := [d1, d2, d3] }
  | _ => none }
def httpSmugglesRow : OpenClaim := { program := "ytbojigimldfghaadoor", sum := "efff068bab5c9f5274b76a9b8ae5aa6a27c9b1bfb89ac434012c80d05dbbf048", func := "wicketman/wicketmanlaw09.HttpSmuggles", spec := "httpSmuggles", inPlace := ["internal/bytealg.IndexByte", "internal/bytealg.Index", "internal/bytealg.IndexByteString", "internal/bytealg.IndexString"], unfollowed := true, recurses := true, named := ["internal/bytealg.MaxLen", "unicode/utf8.first", "unicode/utf8.acceptRanges"], apart := false, laid := [("unicode/utf8.acceptRanges", laid_unicode_utf8_acceptRanges), ("unicode/utf8.first", laid_unicode_utf8_first)] }
def HttpSmugglesSaid : Prop := httpSmugglesRow.holds Tryd.pinned (OpenSpec.ofChange httpSmugglesSpec)

/-- ITS FALSE NEIGHBOUR: 'it returns false'. Refute it at one input. -/
def httpSmugglesWrong : ChangeSpec := { name := "httpSmuggles", fn := fun _ => fun
  | [d1, d2, d3] => { results := [.lit (.bool false)], args := [d1, d2, d3] }
  | _ => none }
def HttpSmugglesWrongFalsely : Prop := httpSmugglesRow.holds Tryd.pinned (OpenSpec.ofChange httpSmugglesWrong)

/-- 'wicketmanlaw09.HttpMost': WHATEVER THE INPUT: true; the input reads as it did. -/
def httpMostSpec : ChangeSpec := { name := "httpMost", fn := fun _ => fun
  | [d1, d2] => { results := [.lit (.bool true)], args := [d1, d2] }
  | _ => none }
def httpMostRow : OpenClaim := { program := "ytbojigimldfghaadoor", sum := "efff068bab5c9f5274b76a9b8ae5aa6a27c9b1bfb89ac434012c80d05dbbf048", func := "wicketman/wicketmanlaw09.HttpMost", spec := "httpMost", inPlace := ["internal/bytealg.IndexByte", "internal/bytealg.Index", "internal/bytealg.IndexByteString", "internal/bytealg.IndexString"], unfollowed := true, recurses := true, named := ["internal/bytealg.MaxLen", "unicode/utf8.first", "unicode/utf8.acceptRanges"], apart := false, laid := [("unicode/utf8.acceptRanges", laid_unicode_utf8_acceptRanges), ("unicode/utf8.first", laid_unicode_utf8_first)] }
def HttpMostSaid : Prop := httpMostRow.holds Tryd.pinned (OpenSpec.ofChange httpMostSpec)

/-- ITS FALSE NEIGHBOUR: 'it returns false'. Refute it at one input. -/
def httpMostWrong : ChangeSpec := { name := "httpMost", fn := fun _ => fun
  | [d1, d2] => { results := [.lit (.bool false)], args := [d1, d2] }
  | _ => none }
def HttpMostWrongFalsely : Prop := httpMostRow.holds Tryd.pinned (OpenSpec.ofChange httpMostWrong)

/-- 'wicketmanlaw09.HttpOrder': WHATEVER THE INPUT: true; the input reads as it did. -/
def httpOrderSpec : ChangeSpec := { name := "httpOrder", fn := fun _ => fun
  | [d1, d2] => { results := [.lit (.bool true)], args := [d1, d2] }
  | _ => none }
def httpOrderRow : OpenClaim := { program := "ytbojigimldfghaadoor", sum := "efff068bab5c9f5274b76a9b8ae5aa6a27c9b1bfb89ac434012c80d05dbbf048", func := "wicketman/wicketmanlaw09.HttpOrder", spec := "httpOrder", inPlace := ["internal/bytealg.IndexByte", "internal/bytealg.Index", "internal/bytealg.IndexByteString", "internal/bytealg.IndexString"], unfollowed := true, recurses := true, named := ["internal/bytealg.MaxLen", "unicode/utf8.first", "unicode/utf8.acceptRanges"], apart := false, laid := [("unicode/utf8.acceptRanges", laid_unicode_utf8_acceptRanges), ("unicode/utf8.first", laid_unicode_utf8_first)] }
def HttpOrderSaid : Prop := httpOrderRow.holds Tryd.pinned (OpenSpec.ofChange httpOrderSpec)

/-- ITS FALSE NEIGHBOUR: 'it returns false'. Refute it at one input. -/
def httpOrderWrong : ChangeSpec := { name := "httpOrder", fn := fun _ => fun
  | [d1, d2] => { results := [.lit (.bool false)], args := [d1, d2] }
  | _ => none }
def HttpOrderWrongFalsely : Prop := httpOrderRow.holds Tryd.pinned (OpenSpec.ofChange httpOrderWrong)

/-- 'wicketmanlaw09.HttpLines': WHATEVER THE INPUT: true; the input reads as it did. -/
def httpLinesSpec : ChangeSpec := { name := "httpLines", fn := fun _ => fun
  | [d1, d2] => { results := [.lit (.bool true)], args := [d1, d2] }
  | _ => none }
def httpLinesRow : OpenClaim := { program := "ytbojigimldfghaadoor", sum := "efff068bab5c9f5274b76a9b8ae5aa6a27c9b1bfb89ac434012c80d05dbbf048", func := "wicketman/wicketmanlaw09.HttpLines", spec := "httpLines", inPlace := ["internal/bytealg.IndexByte", "internal/bytealg.Index", "internal/bytealg.IndexByteString", "internal/bytealg.IndexString"], unfollowed := true, recurses := true, named := ["internal/bytealg.MaxLen", "unicode/utf8.first", "unicode/utf8.acceptRanges"], apart := false, laid := [("unicode/utf8.acceptRanges", laid_unicode_utf8_acceptRanges), ("unicode/utf8.first", laid_unicode_utf8_first)] }
def HttpLinesSaid : Prop := httpLinesRow.holds Tryd.pinned (OpenSpec.ofChange httpLinesSpec)

/-- ITS FALSE NEIGHBOUR: 'it returns false'. Refute it at one input. -/
def httpLinesWrong : ChangeSpec := { name := "httpLines", fn := fun _ => fun
  | [d1, d2] => { results := [.lit (.bool false)], args := [d1, d2] }
  | _ => none }
def HttpLinesWrongFalsely : Prop := httpLinesRow.holds Tryd.pinned (OpenSpec.ofChange httpLinesWrong)

/-- 'wicketmanlaw09.HttpAnswer': WHATEVER THE INPUT: true; the input reads as it did. -/
def httpAnswerSpec : ChangeSpec := { name := "httpAnswer", fn := fun _ => fun
  | [d1, d2] => { results := [.lit (.bool true)], args := [d1, d2] }
  | _ => none }
def httpAnswerRow : OpenClaim := { program := "ytbojigimldfghaadoor", sum := "efff068bab5c9f5274b76a9b8ae5aa6a27c9b1bfb89ac434012c80d05dbbf048", func := "wicketman/wicketmanlaw09.HttpAnswer", spec := "httpAnswer", inPlace := ["internal/bytealg.IndexByte", "internal/bytealg.Index", "internal/bytealg.IndexByteString", "internal/bytealg.IndexString"], unfollowed := true, recurses := true, named := ["internal/bytealg.MaxLen", "unicode/utf8.first", "unicode/utf8.acceptRanges"], apart := false, laid := [("unicode/utf8.acceptRanges", laid_unicode_utf8_acceptRanges), ("unicode/utf8.first", laid_unicode_utf8_first)] }
def HttpAnswerSaid : Prop := httpAnswerRow.holds Tryd.pinned (OpenSpec.ofChange httpAnswerSpec)

/-- ITS FALSE NEIGHBOUR: 'it returns false'. Refute it at one input. -/
def httpAnswerWrong : ChangeSpec := { name := "httpAnswer", fn := fun _ => fun
  | [d1, d2] => { results := [.lit (.bool false)], args := [d1, d2] }
  | _ => none }
def HttpAnswerWrongFalsely : Prop := httpAnswerRow.holds Tryd.pinned (OpenSpec.ofChange httpAnswerWrong)

/- THE SECOND FORM. 'bulk': how many values and letters a reading holds, each counted each time it is reached (what is shared counts as often as it is met; a slice's spare places count too). A statement '..UptoSaid' is the law's where the arguments, and the package variables that the reading takes, are together of bulk at most 1048576: NARROWER than '..Said'. Prove '..Said' where nothing that the law and all that it calls make is longer than what came in: it says more and counts as full. Else prove '..UptoSaid'. A law counts once. -/
mutual
def uptoBulk {H : Type} : DataW H → Nat
  | .lit (.string bytes) => bytes.length + 1
  | .lit _ => 1
  | .nil => 1
  | .ptr d => uptoBulk d + 1
  | .slice elems spare => uptoBulkAll elems + uptoBulkAll spare + 1
  | .agg parts => uptoBulkAll parts + 1
  | .iface _ d => uptoBulk d + 1
  | .map entries => uptoBulkEntries entries + 1
  | .held _ => 1
def uptoBulkAll {H : Type} : List (DataW H) → Nat
  | [] => 0
  | d :: r => uptoBulk d + uptoBulkAll r
def uptoBulkEntries {H : Type} : List (Lit × DataW H) → Nat
  | [] => 0
  | x :: r => uptoBulkEntry x + uptoBulkEntries r
def uptoBulkEntry {H : Type} : Lit × DataW H → Nat
  | (.string bytes, d) => bytes.length + uptoBulk d + 1
  | (_, d) => uptoBulk d + 1
 end
def uptoSmall : (H : Type) → List (DataW H) → Bool := fun _ ds => decide (uptoBulkAll ds ≤ 1048576)
def OpenSpec.upto (s : _root_.Go.ChangeSpec) : _root_.Go.OpenSpec := { _root_.Go.OpenSpec.ofChange s with cond := some uptoSmall }

/-- 'wicketmanlaw09.HttpParses', WHERE WHAT IT READS IS OF BULK AT MOST 1048576: true; the input reads as it did. -/
def httpParsesUptoRow : OpenClaim := { program := "ytbojigimldfghaadoor", sum := "efff068bab5c9f5274b76a9b8ae5aa6a27c9b1bfb89ac434012c80d05dbbf048", func := "wicketman/wicketmanlaw09.HttpParses", spec := "httpParses", inPlace := ["internal/bytealg.IndexByte", "internal/bytealg.Index", "internal/bytealg.IndexByteString", "internal/bytealg.IndexString"], unfollowed := true, recurses := true, named := ["internal/bytealg.MaxLen", "unicode/utf8.first", "unicode/utf8.acceptRanges"], apart := false, laid := [("unicode/utf8.acceptRanges", laid_unicode_utf8_acceptRanges), ("unicode/utf8.first", laid_unicode_utf8_first)], narrowed := true }
def HttpParsesUptoSaid : Prop := httpParsesUptoRow.holds Tryd.pinned (OpenSpec.upto httpParsesSpec)

/-- 'wicketmanlaw09.HttpPrints', WHERE WHAT IT READS IS OF BULK AT MOST 1048576: true; the input reads as it did. -/
def httpPrintsUptoRow : OpenClaim := { program := "ytbojigimldfghaadoor", sum := "efff068bab5c9f5274b76a9b8ae5aa6a27c9b1bfb89ac434012c80d05dbbf048", func := "wicketman/wicketmanlaw09.HttpPrints", spec := "httpPrints", inPlace := ["internal/bytealg.IndexByte", "internal/bytealg.Index", "internal/bytealg.IndexByteString", "internal/bytealg.IndexString"], unfollowed := true, recurses := true, named := ["internal/bytealg.MaxLen", "unicode/utf8.first", "unicode/utf8.acceptRanges"], apart := false, laid := [("unicode/utf8.acceptRanges", laid_unicode_utf8_acceptRanges), ("unicode/utf8.first", laid_unicode_utf8_first)], narrowed := true }
def HttpPrintsUptoSaid : Prop := httpPrintsUptoRow.holds Tryd.pinned (OpenSpec.upto httpPrintsSpec)

/-- 'wicketmanlaw09.HttpBack', WHERE WHAT IT READS IS OF BULK AT MOST 1048576: true; the input reads as it did. -/
def httpBackUptoRow : OpenClaim := { program := "ytbojigimldfghaadoor", sum := "efff068bab5c9f5274b76a9b8ae5aa6a27c9b1bfb89ac434012c80d05dbbf048", func := "wicketman/wicketmanlaw09.HttpBack", spec := "httpBack", inPlace := ["internal/bytealg.IndexByte", "internal/bytealg.Index", "internal/bytealg.IndexByteString", "internal/bytealg.IndexString"], unfollowed := true, recurses := true, named := ["internal/bytealg.MaxLen", "unicode/utf8.first", "unicode/utf8.acceptRanges"], apart := false, laid := [("unicode/utf8.acceptRanges", laid_unicode_utf8_acceptRanges), ("unicode/utf8.first", laid_unicode_utf8_first)], narrowed := true }
def HttpBackUptoSaid : Prop := httpBackUptoRow.holds Tryd.pinned (OpenSpec.upto httpBackSpec)

/-- 'wicketmanlaw09.HttpSmuggles', WHERE WHAT IT READS IS OF BULK AT MOST 1048576: true; the input reads as it did. -/
def httpSmugglesUptoRow : OpenClaim := { program := "ytbojigimldfghaadoor", sum := "efff068bab5c9f5274b76a9b8ae5aa6a27c9b1bfb89ac434012c80d05dbbf048", func := "wicketman/wicketmanlaw09.HttpSmuggles", spec := "httpSmuggles", inPlace := ["internal/bytealg.IndexByte", "internal/bytealg.Index", "internal/bytealg.IndexByteString", "internal/bytealg.IndexString"], unfollowed := true, recurses := true, named := ["internal/bytealg.MaxLen", "unicode/utf8.first", "unicode/utf8.acceptRanges"], apart := false, laid := [("unicode/utf8.acceptRanges", laid_unicode_utf8_acceptRanges), ("unicode/utf8.first", laid_unicode_utf8_first)], narrowed := true }
def HttpSmugglesUptoSaid : Prop := httpSmugglesUptoRow.holds Tryd.pinned (OpenSpec.upto httpSmugglesSpec)

/-- 'wicketmanlaw09.HttpMost', WHERE WHAT IT READS IS OF BULK AT MOST 1048576: true; the input reads as it did. -/
def httpMostUptoRow : OpenClaim := { program := "ytbojigimldfghaadoor", sum := "efff068bab5c9f5274b76a9b8ae5aa6a27c9b1bfb89ac434012c80d05dbbf048", func := "wicketman/wicketmanlaw09.HttpMost", spec := "httpMost", inPlace := ["internal/bytealg.IndexByte", "internal/bytealg.Index", "internal/bytealg.IndexByteString", "internal/bytealg.IndexString"], unfollowed := true, recurses := true, named := ["internal/bytealg.MaxLen", "unicode/utf8.first", "unicode/utf8.acceptRanges"], apart := false, laid := [("unicode/utf8.acceptRanges", laid_unicode_utf8_acceptRanges), ("unicode/utf8.first", laid_unicode_utf8_first)], narrowed := true }
def HttpMostUptoSaid : Prop := httpMostUptoRow.holds Tryd.pinned (OpenSpec.upto httpMostSpec)

/-- 'wicketmanlaw09.HttpOrder', WHERE WHAT IT READS IS OF BULK AT MOST 1048576: true; the input reads as it did. -/
def httpOrderUptoRow : OpenClaim := { program := "ytbojigimldfghaadoor", sum := "efff068bab5c9f5274b76a9b8ae5aa6a27c9b1bfb89ac434012c80d05dbbf048", func := "wicketman/wicketmanlaw09.HttpOrder", spec := "httpOrder", inPlace := ["internal/bytealg.IndexByte", "internal/bytealg.Index", "internal/bytealg.IndexByteString", "internal/bytealg.IndexString"], unfollowed := true, recurses := true, named := ["internal/bytealg.MaxLen", "unicode/utf8.first", "unicode/utf8.acceptRanges"], apart := false, laid := [("unicode/utf8.acceptRanges", laid_unicode_utf8_acceptRanges), ("unicode/utf8.first", laid_unicode_utf8_first)], narrowed := true }
def HttpOrderUptoSaid : Prop := httpOrderUptoRow.holds Tryd.pinned (OpenSpec.upto httpOrderSpec)

/-- 'wicketmanlaw09.HttpLines', WHERE WHAT IT READS IS OF BULK AT MOST 1048576: true; the input reads as it did. -/
def httpLinesUptoRow : OpenClaim := { program := "ytbojigimldfghaadoor", sum := "efff068bab5c9f5274b76a9b8ae5aa6a27c9b1bfb89ac434012c80d05dbbf048", func := "wicketman/wicketmanlaw09.HttpLines", spec := "httpLines", inPlace := ["internal/bytealg.IndexByte", "internal/bytealg.Index", "internal/bytealg.IndexByteString", "internal/bytealg.IndexString"], unfollowed := true, recurses := true, named := ["internal/bytealg.MaxLen", "unicode/utf8.first", "unicode/utf8.acceptRanges"], apart := false, laid := [("unicode/utf8.acceptRanges", laid_unicode_utf8_acceptRanges), ("unicode/utf8.first", laid_unicode_utf8_first)], narrowed := true }
def HttpLinesUptoSaid : Prop := httpLinesUptoRow.holds Tryd.pinned (OpenSpec.upto httpLinesSpec)

/-- 'wicketmanlaw09.HttpAnswer', WHERE WHAT IT READS IS OF BULK AT MOST 1048576: true; the input reads as it did. -/
def httpAnswerUptoRow : OpenClaim := { program := "ytbojigimldfghaadoor", sum := "efff068bab5c9f5274b76a9b8ae5aa6a27c9b1bfb89ac434012c80d05dbbf048", func := "wicketman/wicketmanlaw09.HttpAnswer", spec := "httpAnswer", inPlace := ["internal/bytealg.IndexByte", "internal/bytealg.Index", "internal/bytealg.IndexByteString", "internal/bytealg.IndexString"], unfollowed := true, recurses := true, named := ["internal/bytealg.MaxLen", "unicode/utf8.first", "unicode/utf8.acceptRanges"], apart := false, laid := [("unicode/utf8.acceptRanges", laid_unicode_utf8_acceptRanges), ("unicode/utf8.first", laid_unicode_utf8_first)], narrowed := true }
def HttpAnswerUptoSaid : Prop := httpAnswerUptoRow.holds Tryd.pinned (OpenSpec.upto httpAnswerSpec)

end Rows
end Go.Proofs.YtbojigimldfghaaDoor
