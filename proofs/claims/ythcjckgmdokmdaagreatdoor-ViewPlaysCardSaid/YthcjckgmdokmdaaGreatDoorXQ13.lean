import Derived.Test.YthcjckgmdokmdaaGreatDoorXQ12
import Derived.Shelf.Abstract
namespace Go.Proofs.YthcjckgmdokmdaaGreatDoor
open Go.RowKit Go.Shelf
open Vp
set_option maxRecDepth 100000
end Go.Proofs.YthcjckgmdokmdaaGreatDoor
namespace Go.Proofs.YthcjckgmdokmdaaGreatDoor
open Go.RowKit
open Vp
set_option maxRecDepth 100000
def N3 (w:World) (g:Nat) (a b c:Int):Prop:=w.heap[g]?=some (.cells #[.int .i64 a,.int .i64 b,.int .i64 c] 221 (0,0))
abbrev n3 (a b c:Int):Value:=.agg #[.int .i64 a,.int .i64 b,.int .i64 c]
def rg (ps:List (ByteArray × Int × Int)) (k:Nat):ByteArray × Int × Int:=ps.getD k (ByteArray.empty,0,0)
def inr (v:Int) (k:Nat) (n:Int):Prop:=(rg (opV v) k).2.1<=n/\n<=(rg (opV v) k).2.2
end Go.Proofs.YthcjckgmdokmdaaGreatDoor
namespace Go.Proofs.YthcjckgmdokmdaaGreatDoor
open Go.RowKit
open Pu Gp Ap Vp Np
set_option maxRecDepth 100000
end Go.Proofs.YthcjckgmdokmdaaGreatDoor
namespace Go.Proofs.YthcjckgmdokmdaaGreatDoor
open Go.RowKit Go.Shelf
open Pu Gp Ap Vp Np
set_option maxRecDepth 100000
open Go.ChangeMaps (setBlock)
end Go.Proofs.YthcjckgmdokmdaaGreatDoor
