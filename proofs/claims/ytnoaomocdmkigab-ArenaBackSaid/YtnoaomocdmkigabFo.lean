/- Which maps are formed, how many starts they have: the document's answer. -/
import Derived.Test.YtnoaomocdmkigabFi
namespace Go.Proofs.Ytnoaomocdmkigab
open Go.RowKit
open Pu Gp Ap

/-- how many starts there are without a gap, from the n-th on (f at most) -/
def mnyF (s : ByteArray) : Nat → Nat → Nat
  | 0, n => n
  | f + 1, n => if 0 ≤ fnd s (49 + (n : Int)) 0 then mnyF s f (n + 1) else n
def mny (s : ByteArray) : Nat := mnyF s 6 0
end Go.Proofs.Ytnoaomocdmkigab
