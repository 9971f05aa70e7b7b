import Derived.Test.YtcgmohldcokccaaGreatDoorXS36
import Derived.Test.YtcgmohldcokccaaGreatDoorXS35
set_option linter.unusedVariables false
namespace Go.Proofs.YtcgmohldcokccaaGreatDoor
open Go.RowKit
open Pu Gp Ap Vp Np Za Ka Ja Ea Ha
set_option maxRecDepth 100000
theorem YaM(F:Cf)(hz:F.s.size<=281474976710656)(hC:F.C<=9223372036854775807)(v:Int)(hv:Zf F.C F.R F.s v)(x:World)(ht:OTab x)(hu:RTab x):D13 x F ⟨Yg F.C F.R F.s,stV F.C F.s v,spV F.C F.s v,F.q⟩ where
 act m v a b c u hs:=Lm m v a b c u (ht.still hs) (hu.still hs)
 fire m ow pw no u hs:=Lc m ow pw no u (hu.still hs)
 gli m u:=Lr m F.C F.R F.s hz hC u
 bod L ao n cap u h:=R9 L ao n cap u h
 apt a b u:=RQ a b u
 fly s u:=Ld s F.C F.R F.s hz hC u
 sho L S ao n cap so r scap u h1 h2:=RB L S ao n cap so r scap u h1 h2
 hur m h u:=Ln m h u
 dmg p u:=Lb p u
 hit a b n out u:=MK a b n out u
 sps u:=(C1 F.C F.R F.s hz u).mono fun e w' ⟨a,v',he,hv',ho,hs⟩=>by
  rw[VV hv' hv]at ho;exact⟨a,he,ho,hs⟩
 sts u:=(Te F.C F.R F.s hz u).mono fun e w' ⟨a,v',he,hv',ho,hs⟩=>by
  rw[VV hv' hv]at ho;exact⟨a,he,ho,hs⟩
 pic L Q T ao n cap po r pcap xo t tcap u h1 h2 h3:=YaL L Q T ao n cap po r pcap xo t tcap u h1 h2 h3
 tak m k u:=RN m k u
 gai s n u:=MJ s n u
 spw f s no L ao n cap u h1:=RL F.q f s no L ao n cap u h1
 res m x y u:=OZ m x y u
end Go.Proofs.YtcgmohldcokccaaGreatDoor
namespace Go.Proofs.YtcgmohldcokccaaGreatDoor
open Go.RowKit
open Pu Gp Ap Vp Np Za Ka Ja Ea Ha Hg Hi
set_option maxRecDepth 100000
abbrev Xv(q C R:Int)(s:ByteArray)(v0:Int):Env:=⟨Yg C R s,stV C s v0,spV C s v0,q⟩
theorem YaN{N:Nat}{E:Env}{W:Wd}(h:Ha.Good N E W)(hN:N<=6):DN W:=
 ⟨by have:=h.1.1;omega,by have:=h.1.2.2.1;omega,by have:=(flo_pw.1 h.2.1).1;omega,by have:=(mayK_pw.1 h.2.2.2.1).2.1;omega⟩
theorem TH{u w':World}{E:Env}{W:Wd}{cs:List Cm}{e:Ending}(h:Q5 u w' 130 e):StS u w' oWd [] 130 e:=by
 have:=DO (E:=E) (W:=W) (cs:=cs) (se:=130) ⟨fun h=>(by cases h),fun _=>h⟩;rwa [if_neg (by decide),if_neg (by decide)]at this
theorem steps13_law(p q C R:Int)(s:ByteArray)(lo:Option Addr)(ln lc:Nat)(l:List Int)(hz:s.size<=281474976710656)(hC:C<=9223372036854775807)(W:Wd)(v:Value)(hb:(W.ms.length+1)*104<=140737488355328/\(W.cs.length+1)*32<=140737488355328/\(W.hs.length+1)*64<=140737488355328/\(W.ks.length+1)*24<=140737488355328)(xo:Option Addr)(n xcp:Nat)(L:List Cm)(g47:56*n<=140737488351232)(w:World)(ht:Tab w)(hd:DTab w)(ho:OTab w)(hu:RTab w)(hr:RdI w lo ln lc l)(hv:RdW w v W)(hx:RdG KX w xo n L) :
  Ya 3 #[.agg #[.int .i64 p,.int .u64 q,.int .i64 C,.int .i64 R,.string s,.slice lo ln lc],v,.slice xo n xcp] w (.bool true):=by
 obtain⟨v0,hv0⟩:=CZ C R s w;have h16:=Hf hv0;have hA:∀u,A13 u ⟨p,q,C,R,s,.slice lo ln lc⟩ v0 (stV C s v0):=fun u=>YaA ⟨p,q,C,R,s,.slice lo ln lc⟩ hz v0 hv0 u;have hQ:=fun u=>Tq ⟨p,q,C,R,s,.slice lo ln lc⟩ v0 hv0 u;have hK:∀u,Yc w u->Ya 6 #[] u (.bool true):=fun u hs=>Yah u (ht.still hs) (hd.still hs);have HV:=hv;obtain⟨a,b,c,d,rfl,⟨xa,ya,rfl,-,-,hra⟩,⟨xb,yb,rfl,-,-,hrb⟩,⟨xc,yc,rfl,-,-,hrc⟩,⟨xd,yd,rfl,-,-,hrd⟩⟩:=hv;by_cases hc:Zx p v0 (stV C s v0).length l
 ·obtain⟨N,rfl⟩:∃N:Nat,p=(N:Int):=⟨p.toNat,by have:=hc.1;omega⟩;have hN6:N<=6:=by have:=hc.2.1;omega
  refine TC N q C R s lo ln lc W ⟨W.fr,W.nx,xa,_,ya,xb,_,yb,xc,_,yc,xd,_,yd⟩ ⟨rfl,rfl⟩ xo n xcp L (by omega) w hra hrb hrc hrd hb hx (stE (N:Int) v0 (Xv q C R s v0) l W L) (if stE (N:Int) v0 (Xv q C R s v0) l W L=0 then(frame (Xv q C R s v0) W L).w else oWd) (if stE (N:Int) v0 (Xv q C R s v0) l W L=0 then(frame (Xv q C R s v0) W L).ns else []) ?_ HV hK ?_ ?_
  ·split
   ·rename_i h0;unfold stE at h0;rw[if_neg (not_not_intro hc)]at h0;split at h0
    ·cases h0
    rename_i hF;split at h0
    ·cases h0
    split at h0
    ·cases h0
    rename_i hO;have hG:Ha.Good N (Xv q C R s v0) W:=by have:=(Classical.not_not.1 hF).1;simpa using this
    exact YaN (EW hN6 hG (D7 (Classical.not_not.1 hO))).1 hN6
   ·exact⟨Nat.zero_le _,Nat.zero_le _,Nat.zero_le _,Nat.zero_le _⟩
  ·intro v u yo yc hs hv hy;exact(F9 N q C R s lo ln lc (Xv q C R s v0) l u v0 (hQ u) (Tr ⟨(N:Int),q,C,R,s,.slice lo ln lc⟩ hz _ _ u (ht.still hs) (hd.still hs)) (hr.still hs) hc h16 W v hv yo n yc L hy (by omega)).mono fun e w' h=>DO h
  ·intro v u yo yc hs hv hy;exact(YaJ N q C R s lo ln lc (Xv q C R s v0) l u v0 (hA u) (YaM ⟨(N:Int),q,C,R,s,.slice lo ln lc⟩ hz hC v0 hv0 u (ho.still hs) (hu.still hs)) (fun x z hzz=>BQ x.v x.a x.b x.c z (ho.still (hs.trans hzz))) (hr.still hs) hc h16 W v hv yo n yc L hy (by omega)).mono fun e w' h=>DO h
 ·refine TC p q C R s lo ln lc W ⟨W.fr,W.nx,xa,_,ya,xb,_,yb,xc,_,yc,xd,_,yd⟩ ⟨rfl,rfl⟩ xo n xcp L (by omega) w hra hrb hrc hrd hb hx 130 oWd [] ⟨Nat.zero_le _,Nat.zero_le _,Nat.zero_le _,Nat.zero_le _⟩ HV hK ?_ ?_
  ·intro v u yo yc hs hv hy;exact(PT p q C R s lo ln lc (Xv q C R s v0) l u v0 (hQ u) (hr.still hs) hc W v hv yo n yc).mono fun e w' h=>TH (E:=Xv q C R s v0) (W:=W) (cs:=L) h
  ·intro v u yo yc hs hv hy;exact(YaI p q C R s lo ln lc (Xv q C R s v0) l u v0 (hA u) (hr.still hs) hc W v hv yo n yc).mono fun e w' h=>TH (E:=Xv q C R s v0) (W:=W) (cs:=L) h
end Go.Proofs.YtcgmohldcokccaaGreatDoor
