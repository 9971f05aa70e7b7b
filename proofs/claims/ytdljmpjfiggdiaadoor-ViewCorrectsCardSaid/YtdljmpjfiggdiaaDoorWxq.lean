/- The program's layer as a bundle. -/
import Derived.Test.YtdljmpjfiggdiaaDoorWxg
import Derived.Test.YtdljmpjfiggdiaaDoorWxh
import Derived.Test.YtdljmpjfiggdiaaDoorWxc
namespace Go.Proofs.YtdljmpjfiggdiaaDoor
open Go.RowKit
open Pu Gp Np Za Ka Ja Ea Ha
set_option maxRecDepth 100000

theorem cts23_any (x : World) (ht : PTabV x) (hk : KTab x) : Cts23 x where
  notes := fun L ao n cap u hu hL hr _ hn => vnotes_any L hL ao n cap u hr hn (ht.still hu) (hk.still hu)
  print := fun c u hu hc => print23_any c hc u (ht.still hu)
  cno := fun f1 x1 f2 x2 ao bo co so p1 q1 r1 t1 ac bc cc sc' p2 p3 q2 q3 r2 r3 t2 t3 n1 n2 n3 n4 u _ h => vcorrect_no f1 x1 f2 x2 ao bo co so p1 q1 r1 t1 ac bc cc sc' p2 p3 q2 q3 r2 r3 t2 t3 n1 n2 n3 n4 h u
  cyes := fun f1 x1 f2 x2 ao bo co so p1 q1 r1 t1 ac bc cc sc' p2 p3 q2 q3 r2 r3 t2 t3 n M M' C C' u _ h1 h2 h3 h4 hi hi' hb => vcorrect_yes f1 x1 f2 x2 ao bo co so p1 q1 r1 t1 ac bc cc sc' p2 p3 q2 q3 r2 r3 t2 t3 n M M' C C' u h1 h2 h3 h4 hi hi' hb
end Go.Proofs.YtdljmpjfiggdiaaDoor
