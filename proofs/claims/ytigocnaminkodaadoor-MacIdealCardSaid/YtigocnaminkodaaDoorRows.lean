/-
  NARROWER THAN 'FOR EVERY INPUT', by the rows' own cells (each row's printed sentence says how): ShaSums: laid · ShaWrong: laid · MacCodes: laid · MacIdeal: laid · MacKeys: laid · MacProves: laid · MacSteps: laid · MacApart: laid · MacOrder: laid.
  DERIVED. THE GIVEN ROWS OF THIS SEAT. 9 by the template 'for every input the law returns true; each argument reads behind the call as it read before'; 0 by the template 'total and deterministic' (their statements: YtigocnaminkodaaDoorTotals.lean).
  GIVEN WITH THE SEED: the statements are not yours to turn. If you find one false, say at which input.
  Laid BY PROGRAM, IN A SANDBOX (cutbox-rows.mjs): the forced cells as the released guide's own fill.sh prints them over the translation 87170be9c1033f97… (all of the seat's roots in one cut). By AI agents, Wed Nov 11 2026. No macro, syntax, notation, axiom, sorry.
-/
import Derived.Test.YtigocnaminkodaaDoorChecked
import GoSem.Claim
import GoSem.ClaimJoined
import GoSem.ClaimMapViews
import Derived.JoinedTies
import Derived.KernelRfl
namespace Go.Proofs.YtigocnaminkodaaDoor
/- THE CELL 'sum', in the pinned program and in every row, IS THE sha256 OF THE DUMP (.gsa) THAT YtigocnaminkodaaDoorProg.lean LOADS. Nothing in Lean hashes anything: it is a label: what it is worth is what the hold of that sum in a sandbox is worth. -/
noncomputable def Tryd.pinned : Pinned := { name := "ytigocnaminkodaadoor", sum := "87170be9c1033f97707819d606f397c9720285494b4ef653f8f49e385e0d5e1c", checked := Tryd.checked }
namespace Rows
def none {H : Type} : Left H := { results := [], args := [] }

/- WHAT THE LISTED PACKAGE-LEVEL VARIABLES READ AS WHEN THE CALL BEGINS. Each datum BY PROGRAM (the guide's laid-datum.mjs) off the statement by which the dump's own 'gosem.cut.vars' lays the variable. In a bare row this is a premise. The card (YtigocnaminkodaaDoorCards.lean) ties it to the program's text. -/
def laid_wicketman_sha_firstWords {H : Type} : DataW H := .agg [.lit (.int .u32 1779033703), .lit (.int .u32 3144134277), .lit (.int .u32 1013904242), .lit (.int .u32 2773480762), .lit (.int .u32 1359893119), .lit (.int .u32 2600822924), .lit (.int .u32 528734635), .lit (.int .u32 1541459225)]
def laid_wicketman_sha_rootWords {H : Type} : DataW H := .agg [.lit (.int .u32 1116352408), .lit (.int .u32 1899447441), .lit (.int .u32 3049323471), .lit (.int .u32 3921009573), .lit (.int .u32 961987163), .lit (.int .u32 1508970993), .lit (.int .u32 2453635748), .lit (.int .u32 2870763221), .lit (.int .u32 3624381080), .lit (.int .u32 310598401), .lit (.int .u32 607225278), .lit (.int .u32 1426881987), .lit (.int .u32 1925078388), .lit (.int .u32 2162078206), .lit (.int .u32 2614888103), .lit (.int .u32 3248222580), .lit (.int .u32 3835390401), .lit (.int .u32 4022224774), .lit (.int .u32 264347078), .lit (.int .u32 604807628), .lit (.int .u32 770255983), .lit (.int .u32 1249150122), .lit (.int .u32 1555081692), .lit (.int .u32 1996064986), .lit (.int .u32 2554220882), .lit (.int .u32 2821834349), .lit (.int .u32 2952996808), .lit (.int .u32 3210313671), .lit (.int .u32 3336571891), .lit (.int .u32 3584528711), .lit (.int .u32 113926993), .lit (.int .u32 338241895), .lit (.int .u32 666307205), .lit (.int .u32 773529912), .lit (.int .u32 1294757372), .lit (.int .u32 1396182291), .lit (.int .u32 1695183700), .lit (.int .u32 1986661051), .lit (.int .u32 2177026350), .lit (.int .u32 2456956037), .lit (.int .u32 2730485921), .lit (.int .u32 2820302411), .lit (.int .u32 3259730800), .lit (.int .u32 3345764771), .lit (.int .u32 3516065817), .lit (.int .u32 3600352804), .lit (.int .u32 4094571909), .lit (.int .u32 275423344), .lit (.int .u32 430227734), .lit (.int .u32 506948616), .lit (.int .u32 659060556), .lit (.int .u32 883997877), .lit (.int .u32 958139571), .lit (.int .u32 1322822218), .lit (.int .u32 1537002063), .lit (.int .u32 1747873779), .lit (.int .u32 1955562222), .lit (.int .u32 2024104815), .lit (.int .u32 2227730452), .lit (.int .u32 2361852424), .lit (.int .u32 2428436474), .lit (.int .u32 2756734187), .lit (.int .u32 3204031479), .lit (.int .u32 3329325298)]

/-- 'wicketmanlaw02.ShaSums': WHATEVER THE INPUT: true; the input reads as it did. -/
def shaSumsSpec : ChangeSpec := { name := "shaSums", fn := fun _ => fun
  | [d1, d2, d3, d4, d5, d6] => { results := [.lit (.bool true)], args := [d1, d2, d3, d4, d5, d6] }
  | _ => none }
def shaSumsRow : OpenClaim := { program := "ytigocnaminkodaadoor", sum := "87170be9c1033f97707819d606f397c9720285494b4ef653f8f49e385e0d5e1c", func := "wicketman/wicketmanlaw02.ShaSums", spec := "shaSums", named := ["wicketman/sha.firstWords", "wicketman/sha.rootWords"], apart := false, laid := [("wicketman/sha.firstWords", laid_wicketman_sha_firstWords), ("wicketman/sha.rootWords", laid_wicketman_sha_rootWords)] }
def ShaSumsSaid : Prop := shaSumsRow.holds Tryd.pinned (OpenSpec.ofChange shaSumsSpec)

/-- ITS FALSE NEIGHBOUR: 'it returns false'. Refute it at one input. -/
def shaSumsWrong : ChangeSpec := { name := "shaSums", fn := fun _ => fun
  | [d1, d2, d3, d4, d5, d6] => { results := [.lit (.bool false)], args := [d1, d2, d3, d4, d5, d6] }
  | _ => none }
def ShaSumsWrongFalsely : Prop := shaSumsRow.holds Tryd.pinned (OpenSpec.ofChange shaSumsWrong)

/-- 'wicketmanlaw02.ShaWrong': WHATEVER THE INPUT: true; the input reads as it did. -/
def shaWrongSpec : ChangeSpec := { name := "shaWrong", fn := fun _ => fun
  | [d1, d2, d3, d4] => { results := [.lit (.bool true)], args := [d1, d2, d3, d4] }
  | _ => none }
def shaWrongRow : OpenClaim := { program := "ytigocnaminkodaadoor", sum := "87170be9c1033f97707819d606f397c9720285494b4ef653f8f49e385e0d5e1c", func := "wicketman/wicketmanlaw02.ShaWrong", spec := "shaWrong", named := ["wicketman/sha.firstWords", "wicketman/sha.rootWords"], apart := false, laid := [("wicketman/sha.firstWords", laid_wicketman_sha_firstWords), ("wicketman/sha.rootWords", laid_wicketman_sha_rootWords)] }
def ShaWrongSaid : Prop := shaWrongRow.holds Tryd.pinned (OpenSpec.ofChange shaWrongSpec)

/-- ITS FALSE NEIGHBOUR: 'it returns false'. Refute it at one input. -/
def shaWrongWrong : ChangeSpec := { name := "shaWrong", fn := fun _ => fun
  | [d1, d2, d3, d4] => { results := [.lit (.bool false)], args := [d1, d2, d3, d4] }
  | _ => none }
def ShaWrongWrongFalsely : Prop := shaWrongRow.holds Tryd.pinned (OpenSpec.ofChange shaWrongWrong)

/-- 'wicketmanlaw03.MacCodes': WHATEVER THE INPUT: true; the input reads as it did. -/
def macCodesSpec : ChangeSpec := { name := "macCodes", fn := fun _ => fun
  | [d1, d2, d3, d4] => { results := [.lit (.bool true)], args := [d1, d2, d3, d4] }
  | _ => none }
def macCodesRow : OpenClaim := { program := "ytigocnaminkodaadoor", sum := "87170be9c1033f97707819d606f397c9720285494b4ef653f8f49e385e0d5e1c", func := "wicketman/wicketmanlaw03.MacCodes", spec := "macCodes", unfollowed := true, recurses := true, named := ["wicketman/sha.firstWords", "wicketman/sha.rootWords"], apart := false, laid := [("wicketman/sha.firstWords", laid_wicketman_sha_firstWords), ("wicketman/sha.rootWords", laid_wicketman_sha_rootWords)] }
def MacCodesSaid : Prop := macCodesRow.holds Tryd.pinned (OpenSpec.ofChange macCodesSpec)

/-- ITS FALSE NEIGHBOUR: 'it returns false'. Refute it at one input. -/
def macCodesWrong : ChangeSpec := { name := "macCodes", fn := fun _ => fun
  | [d1, d2, d3, d4] => { results := [.lit (.bool false)], args := [d1, d2, d3, d4] }
  | _ => none }
def MacCodesWrongFalsely : Prop := macCodesRow.holds Tryd.pinned (OpenSpec.ofChange macCodesWrong)

/-- 'wicketmanlaw03.MacIdeal': WHATEVER THE INPUT: true; the input reads as it did. -/
def macIdealSpec : ChangeSpec := { name := "macIdeal", fn := fun _ => fun
  | [d1, d2, d3] => { results := [.lit (.bool true)], args := [d1, d2, d3] }
  | _ => none }
def macIdealRow : OpenClaim := { program := "ytigocnaminkodaadoor", sum := "87170be9c1033f97707819d606f397c9720285494b4ef653f8f49e385e0d5e1c", func := "wicketman/wicketmanlaw03.MacIdeal", spec := "macIdeal", unfollowed := true, recurses := true, named := ["wicketman/sha.firstWords", "wicketman/sha.rootWords"], apart := false, laid := [("wicketman/sha.firstWords", laid_wicketman_sha_firstWords), ("wicketman/sha.rootWords", laid_wicketman_sha_rootWords)] }
def MacIdealSaid : Prop := macIdealRow.holds Tryd.pinned (OpenSpec.ofChange macIdealSpec)

/-- ITS FALSE NEIGHBOUR: 'it returns false'. Refute it at one input. -/
def macIdealWrong : ChangeSpec := { name := "macIdeal", fn := fun _ => fun
  | [d1, d2, d3] => { results := [.lit (.bool false)], args := [d1, d2, d3] }
  | _ => none }
def MacIdealWrongFalsely : Prop := macIdealRow.holds Tryd.pinned (OpenSpec.ofChange macIdealWrong)

/-- 'wicketmanlaw03.MacKeys': WHATEVER THE INPUT: true; the input reads as it did. -/
def macKeysSpec : ChangeSpec := { name := "macKeys", fn := fun _ => fun
  | [d1, d2, d3] => { results := [.lit (.bool true)], args := [d1, d2, d3] }
  | _ => none }
def macKeysRow : OpenClaim := { program := "ytigocnaminkodaadoor", sum := "87170be9c1033f97707819d606f397c9720285494b4ef653f8f49e385e0d5e1c", func := "wicketman/wicketmanlaw03.MacKeys", spec := "macKeys", unfollowed := true, recurses := true, named := ["wicketman/sha.firstWords", "wicketman/sha.rootWords"], apart := false, laid := [("wicketman/sha.firstWords", laid_wicketman_sha_firstWords), ("wicketman/sha.rootWords", laid_wicketman_sha_rootWords)] }
def MacKeysSaid : Prop := macKeysRow.holds Tryd.pinned (OpenSpec.ofChange macKeysSpec)

/-- ITS FALSE NEIGHBOUR: 'it returns false'. Refute it at one input. -/
def macKeysWrong : ChangeSpec := { name := "macKeys", fn := fun _ => fun
  | [d1, d2, d3] => { results := [.lit (.bool false)], args := [d1, d2, d3] }
  | _ => none }
def MacKeysWrongFalsely : Prop := macKeysRow.holds Tryd.pinned (OpenSpec.ofChange macKeysWrong)

/-- 'wicketmanlaw03.MacProves': WHATEVER THE INPUT: true; the input reads as it did. -/
def macProvesSpec : ChangeSpec := { name := "macProves", fn := fun _ => fun
  | [d1, d2, d3, d4] => { results := [.lit (.bool true)], args := [d1, d2, d3, d4] }
  | _ => none }
def macProvesRow : OpenClaim := { program := "ytigocnaminkodaadoor", sum := "87170be9c1033f97707819d606f397c9720285494b4ef653f8f49e385e0d5e1c", func := "wicketman/wicketmanlaw03.MacProves", spec := "macProves", unfollowed := true, recurses := true, named := ["wicketman/sha.firstWords", "wicketman/sha.rootWords"], apart := false, laid := [("wicketman/sha.firstWords", laid_wicketman_sha_firstWords), ("wicketman/sha.rootWords", laid_wicketman_sha_rootWords)] }
def MacProvesSaid : Prop := macProvesRow.holds Tryd.pinned (OpenSpec.ofChange macProvesSpec)

/-- ITS FALSE NEIGHBOUR: 'it returns false'. Refute it at one input. -/
def macProvesWrong : ChangeSpec := { name := "macProves", fn := fun _ => fun
  | [d1, d2, d3, d4] => { results := [.lit (.bool false)], args := [d1, d2, d3, d4] }
  | _ => none }
def MacProvesWrongFalsely : Prop := macProvesRow.holds Tryd.pinned (OpenSpec.ofChange macProvesWrong)

/-- 'wicketmanlaw03.MacSteps': WHATEVER THE INPUT: true; the input reads as it did. -/
def macStepsSpec : ChangeSpec := { name := "macSteps", fn := fun _ => fun
  | [d1, d2, d3, d4] => { results := [.lit (.bool true)], args := [d1, d2, d3, d4] }
  | _ => none }
def macStepsRow : OpenClaim := { program := "ytigocnaminkodaadoor", sum := "87170be9c1033f97707819d606f397c9720285494b4ef653f8f49e385e0d5e1c", func := "wicketman/wicketmanlaw03.MacSteps", spec := "macSteps", unfollowed := true, recurses := true, named := ["wicketman/sha.firstWords", "wicketman/sha.rootWords"], apart := false, laid := [("wicketman/sha.firstWords", laid_wicketman_sha_firstWords), ("wicketman/sha.rootWords", laid_wicketman_sha_rootWords)] }
def MacStepsSaid : Prop := macStepsRow.holds Tryd.pinned (OpenSpec.ofChange macStepsSpec)

/-- ITS FALSE NEIGHBOUR: 'it returns false'. Refute it at one input. -/
def macStepsWrong : ChangeSpec := { name := "macSteps", fn := fun _ => fun
  | [d1, d2, d3, d4] => { results := [.lit (.bool false)], args := [d1, d2, d3, d4] }
  | _ => none }
def MacStepsWrongFalsely : Prop := macStepsRow.holds Tryd.pinned (OpenSpec.ofChange macStepsWrong)

/-- 'wicketmanlaw03.MacApart': WHATEVER THE INPUT: true; the input reads as it did. -/
def macApartSpec : ChangeSpec := { name := "macApart", fn := fun _ => fun
  | [d1, d2] => { results := [.lit (.bool true)], args := [d1, d2] }
  | _ => none }
def macApartRow : OpenClaim := { program := "ytigocnaminkodaadoor", sum := "87170be9c1033f97707819d606f397c9720285494b4ef653f8f49e385e0d5e1c", func := "wicketman/wicketmanlaw03.MacApart", spec := "macApart", unfollowed := true, recurses := true, named := ["wicketman/sha.firstWords", "wicketman/sha.rootWords"], apart := false, laid := [("wicketman/sha.firstWords", laid_wicketman_sha_firstWords), ("wicketman/sha.rootWords", laid_wicketman_sha_rootWords)] }
def MacApartSaid : Prop := macApartRow.holds Tryd.pinned (OpenSpec.ofChange macApartSpec)

/-- ITS FALSE NEIGHBOUR: 'it returns false'. Refute it at one input. -/
def macApartWrong : ChangeSpec := { name := "macApart", fn := fun _ => fun
  | [d1, d2] => { results := [.lit (.bool false)], args := [d1, d2] }
  | _ => none }
def MacApartWrongFalsely : Prop := macApartRow.holds Tryd.pinned (OpenSpec.ofChange macApartWrong)

/-- 'wicketmanlaw03.MacOrder': WHATEVER THE INPUT: true; the input reads as it did. -/
def macOrderSpec : ChangeSpec := { name := "macOrder", fn := fun _ => fun
  | [d1, d2, d3] => { results := [.lit (.bool true)], args := [d1, d2, d3] }
  | _ => none }
def macOrderRow : OpenClaim := { program := "ytigocnaminkodaadoor", sum := "87170be9c1033f97707819d606f397c9720285494b4ef653f8f49e385e0d5e1c", func := "wicketman/wicketmanlaw03.MacOrder", spec := "macOrder", unfollowed := true, recurses := true, named := ["wicketman/sha.firstWords", "wicketman/sha.rootWords"], apart := false, laid := [("wicketman/sha.firstWords", laid_wicketman_sha_firstWords), ("wicketman/sha.rootWords", laid_wicketman_sha_rootWords)] }
def MacOrderSaid : Prop := macOrderRow.holds Tryd.pinned (OpenSpec.ofChange macOrderSpec)

/-- ITS FALSE NEIGHBOUR: 'it returns false'. Refute it at one input. -/
def macOrderWrong : ChangeSpec := { name := "macOrder", fn := fun _ => fun
  | [d1, d2, d3] => { results := [.lit (.bool false)], args := [d1, d2, d3] }
  | _ => none }
def MacOrderWrongFalsely : Prop := macOrderRow.holds Tryd.pinned (OpenSpec.ofChange macOrderWrong)

/- THE SECOND FORM. 'bulk': how many values and letters a reading holds, each counted each time it is reached (what is shared counts as often as it is met; a slice's spare places count too). A statement '..UptoSaid' is the law's where the arguments, and the package variables that the reading takes, are together of bulk at most 1048576: NARROWER than '..Said'. Prove '..Said' where nothing that the law and all that it calls make is longer than what came in: it says more and counts as full. Else prove '..UptoSaid'. A law counts once. -/
mutual
def uptoBulk {H : Type} : DataW H → Nat
  | .lit (.string bytes) => bytes.length + 1
  | .lit _ => 1
  | .nil => 1
  | .ptr d => uptoBulk d + 1
  | .slice elems spare => uptoBulkAll elems + uptoBulkAll spare + 1
  | .agg parts => uptoBulkAll parts + 1
  | .iface _ d => uptoBulk d + 1
  | .map entries => uptoBulkEntries entries + 1
  | .held _ => 1
def uptoBulkAll {H : Type} : List (DataW H) → Nat
  | [] => 0
  | d :: r => uptoBulk d + uptoBulkAll r
def uptoBulkEntries {H : Type} : List (Lit × DataW H) → Nat
  | [] => 0
  | x :: r => uptoBulkEntry x + uptoBulkEntries r
def uptoBulkEntry {H : Type} : Lit × DataW H → Nat
  | (.string bytes, d) => bytes.length + uptoBulk d + 1
  | (_, d) => uptoBulk d + 1
 end
def uptoSmall : (H : Type) → List (DataW H) → Bool := fun _ ds => decide (uptoBulkAll ds ≤ 1048576)
def OpenSpec.upto (s : _root_.Go.ChangeSpec) : _root_.Go.OpenSpec := { _root_.Go.OpenSpec.ofChange s with cond := some uptoSmall }

/-- 'wicketmanlaw02.ShaSums', WHERE WHAT IT READS IS OF BULK AT MOST 1048576: true; the input reads as it did. -/
def shaSumsUptoRow : OpenClaim := { program := "ytigocnaminkodaadoor", sum := "87170be9c1033f97707819d606f397c9720285494b4ef653f8f49e385e0d5e1c", func := "wicketman/wicketmanlaw02.ShaSums", spec := "shaSums", named := ["wicketman/sha.firstWords", "wicketman/sha.rootWords"], apart := false, laid := [("wicketman/sha.firstWords", laid_wicketman_sha_firstWords), ("wicketman/sha.rootWords", laid_wicketman_sha_rootWords)], narrowed := true }
def ShaSumsUptoSaid : Prop := shaSumsUptoRow.holds Tryd.pinned (OpenSpec.upto shaSumsSpec)

/-- 'wicketmanlaw02.ShaWrong', WHERE WHAT IT READS IS OF BULK AT MOST 1048576: true; the input reads as it did. -/
def shaWrongUptoRow : OpenClaim := { program := "ytigocnaminkodaadoor", sum := "87170be9c1033f97707819d606f397c9720285494b4ef653f8f49e385e0d5e1c", func := "wicketman/wicketmanlaw02.ShaWrong", spec := "shaWrong", named := ["wicketman/sha.firstWords", "wicketman/sha.rootWords"], apart := false, laid := [("wicketman/sha.firstWords", laid_wicketman_sha_firstWords), ("wicketman/sha.rootWords", laid_wicketman_sha_rootWords)], narrowed := true }
def ShaWrongUptoSaid : Prop := shaWrongUptoRow.holds Tryd.pinned (OpenSpec.upto shaWrongSpec)

/-- 'wicketmanlaw03.MacCodes', WHERE WHAT IT READS IS OF BULK AT MOST 1048576: true; the input reads as it did. -/
def macCodesUptoRow : OpenClaim := { program := "ytigocnaminkodaadoor", sum := "87170be9c1033f97707819d606f397c9720285494b4ef653f8f49e385e0d5e1c", func := "wicketman/wicketmanlaw03.MacCodes", spec := "macCodes", unfollowed := true, recurses := true, named := ["wicketman/sha.firstWords", "wicketman/sha.rootWords"], apart := false, laid := [("wicketman/sha.firstWords", laid_wicketman_sha_firstWords), ("wicketman/sha.rootWords", laid_wicketman_sha_rootWords)], narrowed := true }
def MacCodesUptoSaid : Prop := macCodesUptoRow.holds Tryd.pinned (OpenSpec.upto macCodesSpec)

/-- 'wicketmanlaw03.MacIdeal', WHERE WHAT IT READS IS OF BULK AT MOST 1048576: true; the input reads as it did. -/
def macIdealUptoRow : OpenClaim := { program := "ytigocnaminkodaadoor", sum := "87170be9c1033f97707819d606f397c9720285494b4ef653f8f49e385e0d5e1c", func := "wicketman/wicketmanlaw03.MacIdeal", spec := "macIdeal", unfollowed := true, recurses := true, named := ["wicketman/sha.firstWords", "wicketman/sha.rootWords"], apart := false, laid := [("wicketman/sha.firstWords", laid_wicketman_sha_firstWords), ("wicketman/sha.rootWords", laid_wicketman_sha_rootWords)], narrowed := true }
def MacIdealUptoSaid : Prop := macIdealUptoRow.holds Tryd.pinned (OpenSpec.upto macIdealSpec)

/-- 'wicketmanlaw03.MacKeys', WHERE WHAT IT READS IS OF BULK AT MOST 1048576: true; the input reads as it did. -/
def macKeysUptoRow : OpenClaim := { program := "ytigocnaminkodaadoor", sum := "87170be9c1033f97707819d606f397c9720285494b4ef653f8f49e385e0d5e1c", func := "wicketman/wicketmanlaw03.MacKeys", spec := "macKeys", unfollowed := true, recurses := true, named := ["wicketman/sha.firstWords", "wicketman/sha.rootWords"], apart := false, laid := [("wicketman/sha.firstWords", laid_wicketman_sha_firstWords), ("wicketman/sha.rootWords", laid_wicketman_sha_rootWords)], narrowed := true }
def MacKeysUptoSaid : Prop := macKeysUptoRow.holds Tryd.pinned (OpenSpec.upto macKeysSpec)

/-- 'wicketmanlaw03.MacProves', WHERE WHAT IT READS IS OF BULK AT MOST 1048576: true; the input reads as it did. -/
def macProvesUptoRow : OpenClaim := { program := "ytigocnaminkodaadoor", sum := "87170be9c1033f97707819d606f397c9720285494b4ef653f8f49e385e0d5e1c", func := "wicketman/wicketmanlaw03.MacProves", spec := "macProves", unfollowed := true, recurses := true, named := ["wicketman/sha.firstWords", "wicketman/sha.rootWords"], apart := false, laid := [("wicketman/sha.firstWords", laid_wicketman_sha_firstWords), ("wicketman/sha.rootWords", laid_wicketman_sha_rootWords)], narrowed := true }
def MacProvesUptoSaid : Prop := macProvesUptoRow.holds Tryd.pinned (OpenSpec.upto macProvesSpec)

/-- 'wicketmanlaw03.MacSteps', WHERE WHAT IT READS IS OF BULK AT MOST 1048576: true; the input reads as it did. -/
def macStepsUptoRow : OpenClaim := { program := "ytigocnaminkodaadoor", sum := "87170be9c1033f97707819d606f397c9720285494b4ef653f8f49e385e0d5e1c", func := "wicketman/wicketmanlaw03.MacSteps", spec := "macSteps", unfollowed := true, recurses := true, named := ["wicketman/sha.firstWords", "wicketman/sha.rootWords"], apart := false, laid := [("wicketman/sha.firstWords", laid_wicketman_sha_firstWords), ("wicketman/sha.rootWords", laid_wicketman_sha_rootWords)], narrowed := true }
def MacStepsUptoSaid : Prop := macStepsUptoRow.holds Tryd.pinned (OpenSpec.upto macStepsSpec)

/-- 'wicketmanlaw03.MacApart', WHERE WHAT IT READS IS OF BULK AT MOST 1048576: true; the input reads as it did. -/
def macApartUptoRow : OpenClaim := { program := "ytigocnaminkodaadoor", sum := "87170be9c1033f97707819d606f397c9720285494b4ef653f8f49e385e0d5e1c", func := "wicketman/wicketmanlaw03.MacApart", spec := "macApart", unfollowed := true, recurses := true, named := ["wicketman/sha.firstWords", "wicketman/sha.rootWords"], apart := false, laid := [("wicketman/sha.firstWords", laid_wicketman_sha_firstWords), ("wicketman/sha.rootWords", laid_wicketman_sha_rootWords)], narrowed := true }
def MacApartUptoSaid : Prop := macApartUptoRow.holds Tryd.pinned (OpenSpec.upto macApartSpec)

/-- 'wicketmanlaw03.MacOrder', WHERE WHAT IT READS IS OF BULK AT MOST 1048576: true; the input reads as it did. -/
def macOrderUptoRow : OpenClaim := { program := "ytigocnaminkodaadoor", sum := "87170be9c1033f97707819d606f397c9720285494b4ef653f8f49e385e0d5e1c", func := "wicketman/wicketmanlaw03.MacOrder", spec := "macOrder", unfollowed := true, recurses := true, named := ["wicketman/sha.firstWords", "wicketman/sha.rootWords"], apart := false, laid := [("wicketman/sha.firstWords", laid_wicketman_sha_firstWords), ("wicketman/sha.rootWords", laid_wicketman_sha_rootWords)], narrowed := true }
def MacOrderUptoSaid : Prop := macOrderUptoRow.holds Tryd.pinned (OpenSpec.upto macOrderSpec)

end Rows
end Go.Proofs.YtigocnaminkodaaDoor
