/- The library's heap: down. -/
import Derived.Test.YtdmgalaajgebkaaQug
namespace Go.Proofs.Ytdmgalaajgebkaa
open Go.RowKit
set_option maxRecDepth 100000

end Go.Proofs.Ytdmgalaajgebkaa
