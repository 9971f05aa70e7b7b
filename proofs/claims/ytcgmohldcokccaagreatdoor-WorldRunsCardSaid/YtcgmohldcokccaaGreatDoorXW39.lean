import Derived.Test.YtcgmohldcokccaaGreatDoorXW38
import Derived.Test.YtcgmohldcokccaaGreatDoorXW37
set_option linter.unusedVariables false
namespace Go.Proofs.YtcgmohldcokccaaGreatDoor
open Go.RowKit
open Pu Gp Ap Vp Np Za Ka Ja Ea Ha
set_option maxRecDepth 100000
theorem YaH(F:Cf)(hz:F.s.size<=281474976710656)(hC:F.C<=9223372036854775807)(v:Int)(hv:Zf F.C F.R F.s v)(x:World)(ht:OTab x)(hu:RTab x):D13 x F ⟨Yg F.C F.R F.s,stV F.C F.s v,spV F.C F.s v,F.q⟩ where
 act m v a b c u hs:=Lj m v a b c u (ht.sT hs) (hu.sT hs)
 fire m ow pw no u hs:=OZ m ow pw no u (hu.sT hs)
 gli m u:=Ln m F.C F.R F.s hz hC u
 bod L ao n cap u h:=RC L ao n cap u h
 apt a b u:=YaE a b u
 fly s u:=La s F.C F.R F.s hz hC u
 sho L S ao n cap so r scap u h1 h2:=RE L S ao n cap so r scap u h1 h2
 hur m h u:=Lk m h u
 dmg p u:=OY p u
 hit a b n out u:=MJ a b n out u
 sps u:=(Cs F.C F.R F.s hz u).mono fun e w' ⟨a,v',he,hv',ho,hs⟩=>by
  rw[VU hv' hv]at ho;exact⟨a,he,ho,hs⟩
 sts u:=(Te F.C F.R F.s hz u).mono fun e w' ⟨a,v',he,hv',ho,hs⟩=>by
  rw[VU hv' hv]at ho;exact⟨a,he,ho,hs⟩
 pic L Q T ao n cap po r pcap xo t tcap u h1 h2 h3:=YaG L Q T ao n cap po r pcap xo t tcap u h1 h2 h3
 tak m k u:=YaB m k u
 gai s n u:=MI s n u
 spw f s no L ao n cap u h1:=Ya9 F.q f s no L ao n cap u h1
 res m x y u:=OW m x y u
end Go.Proofs.YtcgmohldcokccaaGreatDoor
namespace Go.Proofs.YtcgmohldcokccaaGreatDoor
open Go.RowKit
open Pu Gp Ap Vp Np Za Ka Ja Ea Ha Hg Hi
set_option maxRecDepth 100000
abbrev ZC(q C R:Int)(s:ByteArray)(v0:Int):Env:=⟨Yg C R s,stV C s v0,spV C s v0,q⟩
theorem TE{N:Nat}{E:Env}{W:Wd}(h:Ha.Good N E W)(hN:N<=6):QE W:=
 ⟨by have:=h.1.1;omega,by have:=h.1.2.2.1;omega,by have:=(flo_pw.1 h.2.1).1;omega,by have:=(mayK_pw.1 h.2.2.2.1).2.1;omega⟩
theorem runs13_law(p q C R:Int)(s:ByteArray)(lo:Option Addr)(ln lc:Nat)(l:List Int)(hz:s.size<=281474976710656)(hC:C<=9223372036854775807)(a:Int)(xo:Option Addr)(n xcp:Nat)(L:List Cm)(g47:56*n<=140737488351232)(w:World)(ht:Tab w)(hd:DTab w)(ho:OTab w)(hu:RTab w)(hr:RdI w lo ln lc l)(hx:RdG KX w xo n L) :
  Ya 4 #[.agg #[.int .i64 p,.int .u64 q,.int .i64 C,.int .i64 R,.string s,.slice lo ln lc],.int .i64 a,.slice xo n xcp] w (.bool true):=by
 obtain⟨v0,hv0⟩:=CP C R s w;have h16:=CQ hv0;have hA:∀u,A13 u ⟨p,q,C,R,s,.slice lo ln lc⟩ v0 (stV C s v0):=fun u=>Yau ⟨p,q,C,R,s,.slice lo ln lc⟩ hz v0 hv0 u;have hQ:=fun u=>Tq ⟨p,q,C,R,s,.slice lo ln lc⟩ v0 hv0 u;have hK:∀u,Yc w u->Ya 6 #[] u (.bool true):=fun u hs=>H9 u (ht.sT hs) (hd.sT hs);by_cases hc:Zt p v0 (stV C s v0).length l
 ·obtain⟨N,rfl⟩:∃N:Nat,p=(N:Int):=⟨p.toNat,by have:=hc.1;omega⟩;have hN6:N<=6:=by have:=hc.2.1;omega
  have hS:∀i W cs,W.fr=((i:Nat):Int)/\Ha.Good N (ZC q C R s v0) W->stE (N:Int) v0 (ZC q C R s v0) l W cs=0->(frame (ZC q C R s v0) W cs).w.fr=((i+1:Nat):Int)/\Ha.Good N (ZC q C R s v0) (frame (ZC q C R s v0) W cs).w:=by
   rintro i W cs ⟨hf,hG⟩ h0;have hg:∀y∈cs,Rgt N y:=by
    unfold stE at h0;rw[if_neg (not_not_intro hc)]at h0;split at h0
    ·cases h0
    split at h0
    ·cases h0
    split at h0
    ·cases h0
    rename_i hO;exact D4 (Classical.not_not.1 hO)
   obtain⟨g1,g2⟩:=EU hN6 hG hg;exact⟨by rw[g2,hf];simp,g1⟩
  refine T9 N q C R s lo ln lc a xo n xcp L g47 w hx (fun i W=>W.fr=(i:Int)/\Ha.Good N (ZC q C R s v0) W) (fun W cs=>stE (N:Int) v0 (ZC q C R s v0) l W cs) (fun W cs=>if stE (N:Int) v0 (ZC q C R s v0) l W cs=0 then(frame (ZC q C R s v0) W cs).w else oWd) (fun W cs=>if stE (N:Int) v0 (ZC q C R s v0) l W cs=0 then(frame (ZC q C R s v0) W cs).ns else []) (nw0 (ZC q C R s v0) N) 0 (fun i W h=>⟨h.1,TE h.2 hN6⟩) (fun _=>⟨rfl,D5 h16⟩) ?_ (fun i W cs h e=>by simpa only[if_pos e]using hS i W cs h e) hK ?_ ?_ ?_ ?_
  ·intro i W cs h;split
   ·rename_i e;exact TE (hS i W cs h e).2 hN6
   ·exact⟨Nat.zero_le _,Nat.zero_le _,Nat.zero_le _,Nat.zero_le _⟩
  ·intro u hs;refine(F8 N q C R s lo ln lc (ZC q C R s v0) l u v0 (hQ u) (hr.sT hs) hc).mono ?_;rintro e w' ⟨x,rfl,hw,h⟩;obtain⟨X,rfl,o⟩:=DL hw;exact⟨X,rfl,o,h⟩
  ·intro u hs;refine(Yax N q C R s lo ln lc (ZC q C R s v0) l u v0 (hA u) (hr.sT hs) hc).mono ?_;rintro e w' ⟨x,rfl,hw,h⟩;obtain⟨X,rfl,o⟩:=DL hw;exact⟨X,rfl,o,h⟩
  ·intro i W v u yo m yc cs hI hs hv hy hm;exact(FA N q C R s lo ln lc (ZC q C R s v0) l u v0 (hQ u) (Tr ⟨(N:Int),q,C,R,s,.slice lo ln lc⟩ hz _ _ u (ht.sT hs) (hd.sT hs)) (hr.sT hs) hc h16 W v hv yo m yc cs hy (by omega)).mono fun e w' h=>T8 h
  ·intro i W v u yo m yc cs hI hs hv hy hm;exact(Ya4 N q C R s lo ln lc (ZC q C R s v0) l u v0 (hA u) (YaH ⟨(N:Int),q,C,R,s,.slice lo ln lc⟩ hz hC v0 hv0 u (ho.sT hs) (hu.sT hs)) (fun x z hzz=>BN x.v x.a x.b x.c z (ho.sT (hs.trans hzz))) (hr.sT hs) hc h16 W v hv yo m yc cs hy (by omega)).mono fun e w' h=>T8 h
 ·refine T9 p q C R s lo ln lc a xo n xcp L g47 w hx (fun _ _=>False) (fun _ _=>0) (fun _ _=>oWd) (fun _ _=>[]) oWd 130 (fun _ _ h=>h.elim) (fun h=>by cases h) (fun _ _ _ h=>h.elim) (fun _ _ _ h=>h.elim) hK ?_ ?_ (fun _ _ _ _ _ _ _ _ h=>h.elim) (fun _ _ _ _ _ _ _ _ h=>h.elim)
  ·intro u hs;refine(PJ p q C R s lo ln lc (ZC q C R s v0) l u v0 (hQ u) (hr.sT hs) hc).mono ?_;rintro e w' ⟨rfl,h⟩;exact⟨_,rfl,DM _ _,h⟩
  ·intro u hs;refine(Yav p q C R s lo ln lc (stV C s v0) l u v0 (hA u) (hr.sT hs) hc).mono ?_;rintro e w' ⟨rfl,h⟩;exact⟨_,rfl,DM _ _,h⟩
end Go.Proofs.YtcgmohldcokccaaGreatDoor
