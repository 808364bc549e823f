/- IsName of package scan; conditions: the text's size. -/
import Derived.Test.YtgnobpljnahceaaDoorSnC
import Derived.Laws.Strings
namespace Go.Proofs.YtgnobpljnahceaaDoor
open Go.RowKit Go.WideShapes Go.ChangeShapes
set_option linter.unusedVariables false
set_option maxRecDepth 100000

/-- Whether a text is a name. -/
def nameB (s : ByteArray) : Bool := (match s.data.toList with | [] => false | b :: _ => letterC (b.toNat : Int)) && (headN partC s.data.toList == s.size) && !isIn words02 s

end Go.Proofs.YtgnobpljnahceaaDoor
