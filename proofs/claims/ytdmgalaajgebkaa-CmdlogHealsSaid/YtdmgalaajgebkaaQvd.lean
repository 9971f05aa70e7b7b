/- The document's Below. -/
import Derived.Test.YtdmgalaajgebkaaQvc
namespace Go.Proofs.Ytdmgalaajgebkaa
open Go.RowKit
set_option maxRecDepth 100000

end Go.Proofs.Ytdmgalaajgebkaa
