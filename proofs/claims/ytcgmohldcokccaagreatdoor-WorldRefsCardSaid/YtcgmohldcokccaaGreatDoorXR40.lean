import Derived.Test.YtcgmohldcokccaaGreatDoorXR39
import Derived.Test.YtcgmohldcokccaaGreatDoorXR38
set_option linter.unusedVariables false
namespace Go.Proofs.YtcgmohldcokccaaGreatDoor
open Go.RowKit
open Pu Gp Ap Vp Np Za Ka Ja Ea Ha
set_option maxRecDepth 100000
theorem YbC(F:Cf)(hz:F.s.size<=281474976710656)(hC:F.C<=9223372036854775807)(v:Int)(hv:Zh F.C F.R F.s v)(x:World)(ht:OTab x)(hu:RTab x):D13 x F ⟨Yg F.C F.R F.s,stV F.C F.s v,spV F.C F.s v,F.q⟩ where
 act m v a b c u hs:=LO m v a b c u (ht.sT hs) (hu.sT hs)
 fire m ow pw no u hs:=LD m ow pw no u (hu.sT hs)
 gli m u:=LS m F.C F.R F.s hz hC u
 bod L ao n cap u h:=Si L ao n cap u h
 apt a b u:=Yb7 a b u
 fly s u:=LE s F.C F.R F.s hz hC u
 sho L S ao n cap so r scap u h1 h2:=Sk L S ao n cap so r scap u h1 h2
 hur m h u:=LP m h u
 dmg p u:=LC p u
 hit a b n out u:=Rp a b n out u
 sps u:=(CW F.C F.R F.s hz u).mono fun e w' ⟨a,v',he,hv',ho,hs⟩=>by
  rw[Uc hv' hv]at ho;exact⟨a,he,ho,hs⟩
 sts u:=(TF F.C F.R F.s hz u).mono fun e w' ⟨a,v',he,hv',ho,hs⟩=>by
  rw[Uc hv' hv]at ho;exact⟨a,he,ho,hs⟩
 pic L Q T ao n cap po r pcap xo t tcap u h1 h2 h3:=Yb9 L Q T ao n cap po r pcap xo t tcap u h1 h2 h3
 tak m k u:=Yb4 m k u
 gai s n u:=Ro s n u
 spw f s no L ao n cap u h1:=Yb2 F.q f s no L ao n cap u h1
 res m x y u:=LA m x y u
end Go.Proofs.YtcgmohldcokccaaGreatDoor
namespace Go.Proofs.YtcgmohldcokccaaGreatDoor
open Go.RowKit
open Pu Gp Ap Vp Np Za Ka Ja Ea Ha Hg Hi
set_option maxRecDepth 100000
abbrev XW(q C R:Int)(s:ByteArray)(v0:Int):Env:=⟨Yg C R s,stV C s v0,spV C s v0,q⟩
theorem Ag{N:Nat}{E:Env}{W:Wd}(h:Ha.Good N E W)(hN:N<=6):Ky W:=
 ⟨by have:=h.1.1;omega,by have:=h.1.2.2.1;omega,by have:=(flo_pw.1 h.2.1).1;omega,by have:=(mayK_pw.1 h.2.2.2.1).2.1;omega⟩
end Go.Proofs.YtcgmohldcokccaaGreatDoor
