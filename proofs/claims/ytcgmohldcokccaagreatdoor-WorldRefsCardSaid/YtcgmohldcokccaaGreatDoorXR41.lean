import Derived.Test.YtcgmohldcokccaaGreatDoorXR40
import Derived.Test.YtcgmohldcokccaaGreatDoorXR39
set_option linter.unusedVariables false
namespace Go.Proofs.YtcgmohldcokccaaGreatDoor
open Go.RowKit
open Pu Gp Ap Vp Np Za Ka Ja Ea Ha
set_option maxRecDepth 100000
theorem Ybr(F:Cf)(hz:F.s.size<=281474976710656)(hC:F.C<=9223372036854775807)(v:Int)(hv:Zg F.C F.R F.s v)(x:World)(ht:OTab x)(hu:RTab x):D13 x F ⟨Yg F.C F.R F.s,stV F.C F.s v,spV F.C F.s v,F.q⟩ where
 act m v a b c u hs:=L9 m v a b c u (ht.sT hs) (hu.sT hs)
 fire m ow pw no u hs:=Lv m ow pw no u (hu.sT hs)
 gli m u:=LD m F.C F.R F.s hz hC u
 bod L ao n cap u h:=RU L ao n cap u h
 apt a b u:=Ybm a b u
 fly s u:=Lw s F.C F.R F.s hz hC u
 sho L S ao n cap so r scap u h1 h2:=RW L S ao n cap so r scap u h1 h2
 hur m h u:=LA m h u
 dmg p u:=Lu p u
 hit a b n out u:=Rd a b n out u
 sps u:=(C3 F.C F.R F.s hz u).mono fun e w' ⟨a,v',he,hv',ho,hs⟩=>by
  rw[Ua hv' hv]at ho;exact⟨a,he,ho,hs⟩
 sts u:=(Tz F.C F.R F.s hz u).mono fun e w' ⟨a,v',he,hv',ho,hs⟩=>by
  rw[Ua hv' hv]at ho;exact⟨a,he,ho,hs⟩
 pic L Q T ao n cap po r pcap xo t tcap u h1 h2 h3:=Ybo L Q T ao n cap po r pcap xo t tcap u h1 h2 h3
 tak m k u:=Ybj m k u
 gai s n u:=Rc s n u
 spw f s no L ao n cap u h1:=Ybh F.q f s no L ao n cap u h1
 res m x y u:=Ls m x y u
end Go.Proofs.YtcgmohldcokccaaGreatDoor
