/- The document's own Line, by contract. -/
import Derived.Test.YtfmhdkemigpjjaaDoorRecRef
namespace Go.Proofs.YtfmhdkemigpjjaaDoor.Rec
open Go.ChangeShapes Go.WideShapes Go.ChangeAt Go.RowKit Go.Proofs.YtfmhdkemigpjjaaDoor.Base Go.Proofs.YtfmhdkemigpjjaaDoor.Byt Go.Proofs.YtfmhdkemigpjjaaDoor.Txt Go.Proofs.YtfmhdkemigpjjaaDoor.Path Go.Lib
set_option linter.unusedVariables false
set_option maxRecDepth 100000

end Go.Proofs.YtfmhdkemigpjjaaDoor.Rec
