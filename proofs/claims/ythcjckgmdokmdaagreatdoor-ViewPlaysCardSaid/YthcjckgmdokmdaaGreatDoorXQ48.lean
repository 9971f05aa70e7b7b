import Derived.Test.YthcjckgmdokmdaaGreatDoorXQ46
import Derived.Test.YthcjckgmdokmdaaGreatDoorXQ47
import Derived.Test.YthcjckgmdokmdaaGreatDoorXQ36
namespace Go.Proofs.YthcjckgmdokmdaaGreatDoor
open Go.RowKit
open Pu Gp Ap Vp Np Za Ka Ja Ea Ha
set_option maxRecDepth 100000
theorem RB (F:Cf) (hz:F.s.size<=281474976710656) (hC:F.C<=9223372036854775807) (v:Int) (hv:YZ F.C F.R F.s v) (x:World) (ht:OTab x) (hu:RTab x):D13 x F ⟨Ym F.C F.R F.s,stV F.C F.s v,spV F.C F.s v,F.q⟩ where
 act m v a b c u hs:=Ro m v a b c u (ht.sT hs) (hu.sT hs)
 fire m ow pw no u hs:=Iv m ow pw no u (hu.sT hs)
 gli m u:=Rt m F.C F.R F.s hz hC u
 bod L ao n cap u h:=Lt L ao n cap u h
 apt a b u:=Lz a b u
 fly s u:=I0 s F.C F.R F.s hz hC u
 sho L S ao n cap so r scap u h1 h2:=Lv L S ao n cap so r scap u h1 h2
 hur m h u:=R3 m h u
 dmg p u:=FB p u
 hit a b n out u:=Ln a b n out u
 sps u:=(Bs F.C F.R F.s hz u).mono fun e w' ⟨a,v',he,hv',ho,hs⟩=>by
  rw [VK hv' hv] at ho;exact ⟨a,he,ho,hs⟩
 sts u:=(Br F.C F.R F.s hz u).mono fun e w' ⟨a,v',he,hv',ho,hs⟩=>by
  rw [VK hv' hv] at ho;exact ⟨a,he,ho,hs⟩
 pic L Q T ao n cap po r pcap xo t tcap u h1 h2 h3:=L5 L Q T ao n cap po r pcap xo t tcap u h1 h2 h3
 tak m k u:=AM m k u
 gai s n u:=Li s n u
 spw f s no L ao n cap u h1:=AE F.q f s no L ao n cap u h1
 res m x y u:=RA m x y u
end Go.Proofs.YthcjckgmdokmdaaGreatDoor
