import Derived.Test.YtcgmohldcokccaaGreatDoorXR40
import Derived.Test.YtcgmohldcokccaaGreatDoorXR39
set_option linter.unusedVariables false
set_option maxRecDepth 100000
namespace Go.Proofs.YtcgmohldcokccaaGreatDoor
open Go.RowKit
open Pu Gp Ap Vp Np Za Ka Ja Ea Ha
theorem Ybp(F:Cf)(hz:F.s.size<=281474976710656)(hC:F.C<=9223372036854775807)(v:Int)(hv:Zg F.C F.R F.s v)(x:World)(ht:OTab x)(hu:RTab x):D13 x F ⟨Yg F.C F.R F.s,stV F.C F.s v,spV F.C F.s v,F.q⟩ where
 act m v a b c u hs:=L7 m v a b c u (ht.sT hs) (hu.sT hs)
 fire m ow pw no u hs:=Lt m ow pw no u (hu.sT hs)
 gli m u:=LB m F.C F.R F.s hz hC u
 bod L ao n cap u h:=RS L ao n cap u h
 apt a b u:=Ybk a b u
 fly s u:=Lu s F.C F.R F.s hz hC u
 sho L S ao n cap so r scap u h1 h2:=RU L S ao n cap so r scap u h1 h2
 hur m h u:=L8 m h u
 dmg p u:=Ls p u
 hit a b n out u:=Ra a b n out u
 sps u:=(C1 F.C F.R F.s hz u).mono fun e w' ⟨a,v',he,hv',ho,hs⟩=>by
  rw[VX hv' hv]at ho;exact⟨a,he,ho,hs⟩
 sts u:=(Tu F.C F.R F.s hz u).mono fun e w' ⟨a,v',he,hv',ho,hs⟩=>by
  rw[VX hv' hv]at ho;exact⟨a,he,ho,hs⟩
 pic L Q T ao n cap po r pcap xo t tcap u h1 h2 h3:=Ybm L Q T ao n cap po r pcap xo t tcap u h1 h2 h3
 tak m k u:=Ybh m k u
 gai s n u:=MZ s n u
 spw f s no L ao n cap u h1:=Ybf F.q f s no L ao n cap u h1
 res m x y u:=Lp m x y u
end Go.Proofs.YtcgmohldcokccaaGreatDoor
