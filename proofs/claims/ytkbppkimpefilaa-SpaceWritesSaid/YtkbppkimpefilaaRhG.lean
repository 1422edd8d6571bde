/- The document's sets: Clone. -/
import Derived.Test.YtkbppkimpefilaaRhF
namespace Go.Proofs.Ytkbppkimpefilaa
open Go.RowKit Go.Lib
set_option maxRecDepth 100000

end Go.Proofs.Ytkbppkimpefilaa
