/- The bundle: the program's four. -/
import Derived.Test.YtpohikhiekmfgaaYge
import Derived.Test.YtpohikhiekmfgaaYgg
import Derived.Test.YtpohikhiekmfgaaYgh
import Derived.Test.YtpohikhiekmfgaaYgi
import Derived.Test.YtpohikhiekmfgaaJh
import Derived.Test.YtpohikhiekmfgaaJj
namespace Go.Proofs.Ytpohikhiekmfgaa
open Go.RowKit
open Pu Gp Ap Vp Np Za Ka Ja

theorem cts11_any (w : World) : Cts11 w :=
  ⟨fun L ao n cap u h _ _ => hbodies_any L ao n cap u h, fun a b u _ => hapart_any a b u, fun L S ao n cap so r sc u h k _ _ _ => hshots_any L S ao n cap so r sc u h k, fun L Q T ao n cap po r pc xo t tc u h k m _ hc _ _ => hpic_any L Q T ao n cap po r pc xo t tc u h k m hc⟩
theorem awake_of (w : World) : Awake w := fun u hu => awake11_any u ((cts11_any w).still hu)
end Go.Proofs.Ytpohikhiekmfgaa
