/- Parts of the proof, laid end to end. -/
import Derived.Test.YtdljmpjfiggdiaaDoorZV20
import Derived.Test.YtdljmpjfiggdiaaDoorZV22
namespace Go.Proofs.YtdljmpjfiggdiaaDoor
open Go.RowKit
open Pu Gp Np Za Ka Ja Ea Ha
set_option maxRecDepth 100000
theorem ctT_any (x : World) (ht : PTabV x) : CtT x where
 table := fun L ao n cap u hu hr _ => vtable_any L ao n cap u hr (ht.still hu)
end Go.Proofs.YtdljmpjfiggdiaaDoor
