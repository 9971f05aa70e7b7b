import Derived.Test.YtcgmohldcokccaaGreatDoorXR36
import Derived.Test.YtcgmohldcokccaaGreatDoorXR41
set_option linter.unusedVariables false
set_option maxRecDepth 100000
namespace Go.Proofs.YtcgmohldcokccaaGreatDoor
open Go.RowKit
open Pu Gp Ap Vp Np Za Ka Ja Ea Ha Hg Hi
abbrev XS(q C R:Int)(s:ByteArray)(v0:Int):Env:=⟨Yg C R s,stV C s v0,spV C s v0,q⟩
theorem TT{N:Nat}{E:Env}{W:Wd}(h:Ha.Good N E W)(hN:N<=6):Kt W:=
 ⟨by have:=h.1.1;omega,by have:=h.1.2.2.1;omega,by have:=(flo_pw.1 h.2.1).1;omega,by have:=(mayK_pw.1 h.2.2.2.1).2.1;omega⟩
theorem Ybq{N:Nat}{L:List Cm}(hr:∀x∈L,Rgt N x)(hd:Dst L)(f:Int):Z1 (N:Int) f (ofC L f):=fun i hi=>by
 have hm:=fun k (hk:k<(ofC L f).length)=>ofC_mem.1 (List.getElem_mem hk);have hg:∀k (hk:k<(ofC L f).length),(ofC L f).getD k ⟨0,0,0,0,0,0,0⟩=(ofC L f)[k]:=fun k hk=>by simp[List.getD,hk]
 rw[hg i hi];refine⟨⟨by rw[Int.toNat_natCast];exact hr _ (hm i hi).1,(hm i hi).2⟩,fun h0=>?_⟩;rw[hg (i-1) (by omega)];exact List.pairwise_iff_getElem.1 (Nk hd f) (i-1) i (by omega) hi (by omega)
theorem Ybr{N k:Nat}{v0:Int}{E:Env}{l:List Int}{L:List Cm}(hc:Zm (N:Int) v0 E.st.length l)(hG:Ha.Good N E (Z3 E N L k))(hf:(Z3 E N L k).fr=(k:Int))(hk:k<=4096)(hr:∀x∈L,Rgt N x)(hd:Dst L):stE (N:Int) v0 E l (Z3 E N L k) (ofC L ((k:Int)+1))=0:=
 TI hc ⟨by rw[Int.toNat_natCast];exact hG,by omega,by omega⟩ (by omega) (by rw[hf];exact Ybq hr hd _)
theorem Ybs{N:Nat}{L:List Cm}:Vj (N:Int) L ↔ ¬((∀x∈L,Rgt N x)/\Dst L):=by
 have hg:∀k (hk:k<L.length),L.getD k ⟨0,0,0,0,0,0,0⟩=L[k]:=fun k hk=>by simp[List.getD,hk]
 unfold Vj Dst;constructor
 ·rintro⟨i,hi,h⟩ ⟨h1,h2⟩;rcases h with h|⟨k,hk,e1,e2⟩
  ·rw[hg i hi,Int.toNat_natCast]at h;exact h (h1 _ (List.getElem_mem hi))
  ·rw[hg i hi,hg k (by omega)]at e1 e2;exact List.pairwise_iff_getElem.1 h2 k i (by omega) hi hk ⟨e1,e2⟩
 ·intro h;refine Classical.byContradiction fun hc=>h ⟨fun x hx=>?_,List.pairwise_iff_getElem.2 fun k i hk hi hki e=>?_⟩
  ·obtain⟨i,hi,rfl⟩:=List.mem_iff_getElem.1 hx;refine Classical.byContradiction fun hr=>hc ⟨i,hi,.inl ?_⟩;rw[hg i hi,Int.toNat_natCast];exact hr
  ·refine hc ⟨i,hi,.inr ⟨k,hki,?_,?_⟩⟩
   ·rw[hg i hi,hg k hk];exact e.1
   ·rw[hg i hi,hg k hk];exact e.2
theorem refs13_law(p q C R:Int)(s:ByteArray)(lo:Option Addr)(ln lc:Nat)(l:List Int)(hz:s.size<=281474976710656)(hC:C<=9223372036854775807)(a:Int)(xo:Option Addr)(n xcp:Nat)(L:List Cm)(g47:56*n<=140737488351232)(w:World)(ht:Tab w)(hd:DTab w)(ho:OTab w)(hu:RTab w)(hr:RdI w lo ln lc l)(hx:RdG KX w xo n L) :
  Ya 5 #[.agg #[.int .i64 p,.int .u64 q,.int .i64 C,.int .i64 R,.string s,.slice lo ln lc],.int .i64 a,.slice xo n xcp] w (.bool true):=by
 obtain⟨v0,hv0⟩:=CZ C R s w;have h16:=Hf hv0;have hA:∀u,A13 u ⟨p,q,C,R,s,.slice lo ln lc⟩ v0 (stV C s v0):=fun u=>YaQ ⟨p,q,C,R,s,.slice lo ln lc⟩ hz v0 hv0 u;have hQ:=fun u=>TB ⟨p,q,C,R,s,.slice lo ln lc⟩ v0 hv0 u;have hK:∀u,Yc w u->Ya 6 #[] u (.bool true):=fun u hs=>Ya7 u (ht.sT hs) (hd.sT hs);obtain⟨bad,hbad⟩:=exB (Vj p L);have hRf:∀u,Yc w u->Ya 47 #[.agg #[.int .i64 p,.int .u64 q,.int .i64 C,.int .i64 R,.string s,.slice lo ln lc],.slice xo n xcp] u (.bool bad):=fun u hs =>
  (Ybo ⟨p,q,C,R,s,.slice lo ln lc⟩ L xo n xcp u (hx.sT hs) (fun x z hzz=>GK x.v x.a x.b x.c z (ho.sT (hs.trans hzz)))).mono (by
   rintro e w' ⟨v,rfl,⟨b,rfl,hb⟩,h⟩;have:b=bad:=by rw[Bool.eq_iff_iff,hb,hbad]
   exact⟨by rw[this],h⟩)
 by_cases hc:Zm p v0 (stV C s v0).length l
 ·obtain⟨N,rfl⟩:∃N:Nat,p=(N:Int):=⟨p.toNat,by have:=hc.1;omega⟩;have hN6:N<=6:=by have:=hc.2.1;omega
  have hok:bad=false ↔ (∀x∈L,Rgt N x)/\Dst L:=by rw[<- Bool.not_eq_true,hbad,Ybs,Classical.not_not]
  have hgd:=fun(hb:bad=false) k=>D9 (E:=XS q C R s v0) hN6 (DM h16) (hok.1 hb).1 k;refine TL N q C R s lo ln lc a xo n xcp L (by omega) w hx (Xg 0 a bad) (if Xg 0 a bad=0 then Z3 (XS q C R s v0) N L a.toNat else oWd) ?_ hK ?_ ?_
  ·split
   ·rename_i h0;have hb:bad=false:=by
     cases bad
     ·rfl
     ·unfold Xg at h0;rw[if_pos rfl]at h0;split at h0<;>cases h0
    exact TT (hgd hb _).1 hN6
   ·exact⟨Nat.zero_le _,Nat.zero_le _,Nat.zero_le _,Nat.zero_le _⟩
  ·intro u yo yc hs hy hyc;exact TO N q C R s lo ln lc (XS q C R s v0) l u v0 (hQ u) (TC ⟨(N:Int),q,C,R,s,.slice lo ln lc⟩ hz _ _ u (ht.sT hs) (hd.sT hs)) (hr.sT hs) hc h16 a yo n yc L hy hyc g47 (!bad) (by rw[<- hok];cases bad<;>decide) _ _ (by rw[Bool.not_not]) rfl
  ·intro u hs;refine TK N q C R s lo ln lc a xo n xcp L g47 u (hx.sT hs) 0 bad (Z3 (XS q C R s v0) N L) (fun k=>(frame (XS q C R s v0) (Z3 (XS q C R s v0) N L k) (ofC L ((k:Int)+1))).ns) _ _ rfl rfl (fun _ hb k=>TT (hgd hb k).1 hN6) ?_ (fun v hv=>hRf v (hs.trans hv)) ?_
   ·intro v hv;refine(YaT N q C R s lo ln lc (XS q C R s v0) l v v0 (hA v) (hr.sT (hs.trans hv)) hc).mono ?_;rintro e w' ⟨x,rfl,hw,h⟩;obtain⟨X,rfl,o⟩:=QO hw;rw[if_pos rfl];exact⟨X,rfl,o,h⟩
   ·intro _ hb k v u' yo m yc hk hv hrd hy hm;have hs':=hs.trans hv;have e0:=Ybr hc (hgd hb k).1 (hgd hb k).2 (by omega) (hok.1 hb).1 (hok.1 hb).2;refine(Yba N q C R s lo ln lc (XS q C R s v0) l u' v0 (hA u') (Ybp ⟨(N:Int),q,C,R,s,.slice lo ln lc⟩ hz hC v0 hv0 u' (ho.sT hs') (hu.sT hs')) (fun x z hzz=>GK x.v x.a x.b x.c z (ho.sT (hs'.trans hzz))) (hr.sT hs') hc h16 (Z3 (XS q C R s v0) N L k) v hrd yo m yc (ofC L ((k:Int)+1)) hy (by omega)).mono fun e w' h=>?_;have:=Yag h;rwa [e0,if_pos rfl,if_pos rfl]at this
 ·refine TL p q C R s lo ln lc a xo n xcp L (by omega) w hx 130 oWd ⟨Nat.zero_le _,Nat.zero_le _,Nat.zero_le _,Nat.zero_le _⟩ hK ?_ ?_
  ·intro u yo yc hs hy hyc;exact Ya4 p q C R s lo ln lc (XS q C R s v0) l u v0 (hQ u) (hr.sT hs) hc a yo n yc
  ·intro u hs;refine TK p q C R s lo ln lc a xo n xcp L g47 u (hx.sT hs) 130 bad (fun _=>oWd) (fun _=>[]) _ _ (by rw[Xg,if_neg (by decide)]) (by rw[if_neg (by decide)]) (fun h=>by cases h) ?_ (fun v hv=>hRf v (hs.trans hv)) (fun h=>by cases h);intro v hv;rw[if_neg (by decide)];exact(YaR p q C R s lo ln lc (stV C s v0) l v v0 (hA v) (hr.sT (hs.trans hv)) hc).mono fun e w' h=>VK h
end Go.Proofs.YtcgmohldcokccaaGreatDoor
