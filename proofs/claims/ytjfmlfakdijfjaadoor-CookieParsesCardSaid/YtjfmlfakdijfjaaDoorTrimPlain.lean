/- A text without blanks and tabs at its ends. No program. -/
import Derived.Test.YtjfmlfakdijfjaaDoorFillPlain
import Derived.Lib.SlTrimSet
namespace Go.Proofs.YtjfmlfakdijfjaaDoor

/-- a text without blanks and tabs at its ends -/
def trimL (l : List UInt8) : List UInt8 := Lib.trimS l [32, 9]
end Go.Proofs.YtjfmlfakdijfjaaDoor
