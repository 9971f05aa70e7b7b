/- Parts of the proof, laid end to end. -/
import Derived.Test.YtonchpgmdnekpaaGreatDoorZK21
import Derived.Test.YtonchpgmdnekpaaGreatDoorZK25
import Derived.Test.YtonchpgmdnekpaaGreatDoorZK17
import Derived.Test.YtonchpgmdnekpaaGreatDoorZK19
import Derived.Test.YtonchpgmdnekpaaGreatDoorZK10
import Derived.Test.YtonchpgmdnekpaaGreatDoorZK26
import Derived.Test.YtonchpgmdnekpaaGreatDoorZK28
namespace Go.Proofs.YtonchpgmdnekpaaGreatDoor
open Go.RowKit
open Pu Gp Ap Vp Np Za Ka Ja Ea Ha Hg Hi
set_option maxRecDepth 100000
theorem chkV_ex (C R:Int) (s:ByteArray) (w:World):∃ v,ChkV C R s v:=by
 obtain ⟨e,w',fr,⟨v,_,hv,_⟩,_⟩:=mapcheck_any C R s w []
 exact ⟨v,hv⟩
theorem q13_of (F:Cf) (v:Int) (hv:ChkV F.C F.R F.s v) (x:World):Q13 x F v (stV F.C F.s v) (spV F.C F.s v) where
 chk u _:=(mapcheck_any F.C F.R F.s u).mono fun e w' ⟨v',he,hv',hs⟩=>by
  rw [chkV_one hv' hv] at he
  exact ⟨he,hs⟩
 sts u _:=(starts_any F.C F.R F.s u).mono fun e w' ⟨a,v',he,hv',ho,hs⟩=>by
  rw [chkV_one hv' hv] at ho
  exact ⟨a,he,ho,hs⟩
 sps u _:=(spots_any F.C F.R F.s u).mono fun e w' ⟨a,v',he,hv',ho,hs⟩=>by
  rw [chkV_one hv' hv] at ho
  exact ⟨a,he,ho,hs⟩
theorem p13_of (F:Cf) (hz:F.s.size<=281474976710656) (st sp:List (Int × Int)) (x:World) (ht:Tab x) (hd:DTab x):P13 x F ⟨solB F.C F.R F.s,st,sp,F.q⟩ where
 act m v a b c u hu:=act_any m v a b c u (ht.still hu)
 fire m ow pw no u hu:=fire_any m ow pw no u (ht.still hu)
 gli m u:=glide8_any m F.C F.R F.s hz u
 bod L ao n cap u h:=hbodies_any L ao n cap u h
 apt a b u:=hapart_any a b u
 fly s u:=fly_any s F.C F.R F.s hz u
 sho L S ao n cap so r scap u h1 h2:=hshots_any L S ao n cap so r scap u h1 h2
 hur m h u:=hurt8_any m h u
 dmg p u:=dmgs_any p u
 hit a b n out u:=shit_any a b n out u
 pic L Q T ao n cap po r pcap xo t tcap u h1 h2 h3 h4:=hpic_any L Q T ao n cap po r pcap xo t tcap u h1 h2 h3 h4
 tak m k u:=ptake_any m k u
 gai s n u:=sgain_any s n u
 spw f s no L ao n cap u hu h1 h2:=pspawn_any F.q f s no L ao n cap u (hd.still hu) h1 h2
 res m x y u:=rest8_any m x y u
end Go.Proofs.YtonchpgmdnekpaaGreatDoor
