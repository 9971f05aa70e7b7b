/- DigestBytes: the walk. -/
import Derived.Test.YtpdgbalhbfpdeaaDoorNm
import Derived.Test.YtpdgbalhbfpdeaaDoorLf
namespace Go.Proofs.YtpdgbalhbfpdeaaDoor
open Go.RowKit

set_option maxHeartbeats 1000000 in
set_option maxRecDepth 100000 in
theorem bytes_walk (ao : Option Addr) (n cap : Nat) (bs : List UInt8) (w : World) (hr : Rd w ao n cap bs) (h47 : n + 4 ≤ 140737488355328) (ht : Tab w) :
    Calls Tryd.prog 5 #[.slice ao n cap] w fun e w' => e = .returned (.bool true) ∧ Still w w' := by
  have hlen := hid hr.len
  go_enter Tryd.func5, Tryd.ntmps5
  go_wp2_with fail
  refine (awake_any _ ht).mono ?_
  rintro e w1 ⟨rfl, h1⟩
  have ht1 := ht.still h1
  have hr1 := hr.still h1
  have hL := hid (lent_any ao n cap 3 (by omega) (by omega) bs w1 hr1 h47)
  go_wp2_with fail
  refine hL.out.mono ?_
  rintro e w2 ⟨g, rfl, ho2, h2, hg⟩
  have ht2 := ht1.still h2
  have hr2 := hr1.still h2
  have hro : Rd w2 (some ⟨g, 0, none⟩) n (n + 3) bs := by
    have := ho2.rd.take (i := n) (by omega)
    rwa [List.take_left' hlen.out] at this
  have hO := hid (of_any (some ⟨g, 0, none⟩) n (n + 3) bs w2 hro ht2)
  have HG := hid hg
  clear hL hr1 ht1 hg
  go_wp2_with fail
  refine hO.out.mono ?_
  rintro e w3 ⟨rfl, h3⟩
  have ht3 := ht2.still h3
  have hr3 := hr2.still h3
  have hS := hid (still_any g ao n cap 3 (by omega) bs w3 hr3 (ho2.rd.still h3) h47)
  clear hO hro hr2 ht2
  go_wp2_with fail
  refine hS.out.mono ?_
  rintro e w4 ⟨rfl, h4⟩
  have ht4 := ht3.still h4
  have hr4 := hr3.still h4
  have hR := hid (rof_any ao n cap bs w4 hr4)
  clear hS hr3 ht3
  go_wp2_with fail
  refine hR.out.mono ?_
  rintro e w5 ⟨rfl, h5⟩
  have hO := hid (of_any ao n cap bs w5 (hr4.still h5) (ht4.still h5))
  clear hR hr4 ht4
  go_wp2_with fail
  refine hO.out.mono ?_
  rintro e w6 ⟨rfl, h6⟩
  go_wp2_with fail
  go_ret
  exact ⟨rfl, h1.trans (h2.trans (h3.trans (h4.trans (h5.trans h6))))⟩
end Go.Proofs.YtpdgbalhbfpdeaaDoor
