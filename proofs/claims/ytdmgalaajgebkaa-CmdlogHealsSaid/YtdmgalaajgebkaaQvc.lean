/- The document's Pop, Below. -/
import Derived.Test.YtdmgalaajgebkaaQvb
namespace Go.Proofs.Ytdmgalaajgebkaa
open Go.RowKit
set_option maxRecDepth 100000

end Go.Proofs.Ytdmgalaajgebkaa
