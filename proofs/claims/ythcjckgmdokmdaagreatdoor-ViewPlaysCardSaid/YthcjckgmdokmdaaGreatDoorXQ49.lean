import Derived.Test.YthcjckgmdokmdaaGreatDoorXQ26
import Derived.Test.YthcjckgmdokmdaaGreatDoorXQ43
import Derived.Test.YthcjckgmdokmdaaGreatDoorXQ45
import Derived.Test.YthcjckgmdokmdaaGreatDoorXQ48
namespace Go.Proofs.YthcjckgmdokmdaaGreatDoor
open Go.RowKit
open Pu Gp Ap Vp Np Za Ka Ja Ea Ha Hg Hi
set_option maxRecDepth 100000
theorem BJ {p:Int} {E:Env} {W:Wd} {i:Nat} (hf:W.fr=(i:Int)) (hG:Ha.Good p.toNat E W) (hi:i<60):Zr p E W:=⟨hG,by omega,by omega⟩
theorem plays23_law (p q C R:Int) (s:ByteArray) (lo:Option Addr) (ln lc:Nat) (l:List Int) (hz:s.size<=281474976710656) (hC:C<=9223372036854775807) (a:Int) (xo:Option Addr) (n xcp:Nat) (L:List Cm) (g47:56*n<=140737488351232) (w:World) (ht:PTabV w) (hk:KTab w) (ho:OTab w) (hu:RTab w) (hr:RdI w lo ln lc l) (hx:RdG KX w xo n L) :
  Ya 4 #[.agg #[.int .i64 p,.int .u64 q,.int .i64 C,.int .i64 R,.string s,.slice lo ln lc],.int .i64 a,.slice xo n xcp] w (.bool true):=by
 obtain ⟨v0,hv0⟩:=L6 C R s w;have h16:=L8 hv0;have hA:∀ u,A13 u ⟨p,q,C,R,s,.slice lo ln lc⟩ v0 (stV C s v0):=fun u=>LT ⟨p,q,C,R,s,.slice lo ln lc⟩ hz v0 hv0 u;refine Om p q C R s lo ln lc a xo n xcp L g47 w (MW w ht hk) hx (fun i W=>Zo p v0 (stV C s v0).length l/\W.fr=(i:Int)/\Ha.Good p.toNat (Uo q C R s v0) W) (fun W t=>ShQ C R s (Uo q C R s v0) W (Zo p v0 (stV C s v0).length l/\Zr p (Uo q C R s v0) W) t 0) ?_ (fun W t t' h1 h2=>(h1.one h2).1) ?_ ?_ ?_ ?_
 ·rintro i W ⟨hc,hf,hG⟩;exact ⟨hf,IE hG (by have:=hc.2.1; omega)⟩
 ·intro u hs;by_cases hc:Zo p v0 (stV C s v0).length l
  ·obtain ⟨N,rfl⟩:∃ N:Nat,p=(N:Int):=⟨p.toNat,by have:=hc.1; omega⟩;refine (LW N q C R s lo ln lc (Uo q C R s v0) l u v0 (hA u) (hr.sT hs) hc).mono ?_;rintro e w' ⟨x,rfl,hw,h⟩;obtain ⟨fr,nx,za,l1,ca,zb,l2,cb,zc,l3,cc,zd,l4,cd,rfl,hw'⟩:=Ws hw hs.size;exact ⟨fr,nx,za,l1,ca,zb,l2,cb,zc,l3,cc,zd,l4,cd,0,rfl,fun _=>⟨_,⟨hc,rfl,by rw [Int.toNat_natCast]; exact IC h16⟩,hw'⟩,h⟩
  ·refine (LU p q C R s lo ln lc (stV C s v0) l u v0 (hA u) (hr.sT hs) hc).mono ?_;rintro e w' ⟨rfl,h⟩;exact ⟨_,_,_,_,_,_,_,_,_,_,_,_,_,_,130,rfl,(fun h=>by cases h),h⟩
 ·rintro i W v u ⟨hc,hf,hG⟩ hi hs hv;refine (MF p q C R s lo ln lc (Uo q C R s v0) l u v0 hv0 (fun z=>L7 ⟨p,q,C,R,s,.slice lo ln lc⟩ v0 hv0 z) (MG C s hz v0) (hr.sT hs) W v hv (ht.sT hs) (hk.sT hs)).mono ?_;rintro e w' ⟨t,er,rfl,hq,h⟩;obtain rfl:=(hq.yes ⟨hc,BJ hf hG hi⟩).2;exact ⟨t,rfl,hq,h⟩
 ·rintro i W v u ⟨hc,hf,hG⟩ hi hs hv;refine (LY p q C R s lo ln lc (Uo q C R s v0) l u v0 hv0 (hA u) (fun z=>LX C R s hz v0 hv0 z) (hr.sT hs) W v hv (ht.sT hs)).mono ?_;rintro e w' ⟨t,er,rfl,hq,h⟩;obtain rfl:=(hq.yes ⟨hc,BJ hf hG hi⟩).2;exact ⟨t,rfl,hq,h⟩
 ·rintro i W v u yo m yc ⟨hc,hf,hG⟩ hi hs hv hy hm;obtain ⟨N,rfl⟩:∃ N:Nat,p=(N:Int):=⟨p.toNat,by have:=hc.1; omega⟩;rw [Int.toNat_natCast] at hG;refine (Rd N q C R s lo ln lc (Uo q C R s v0) l u v0 (hA u) (RB ⟨(N:Int),q,C,R,s,.slice lo ln lc⟩ hz hC v0 hv0 u (ho.sT hs) (hu.sT hs)) (fun x z hzz=>Uy x.v x.a x.b x.c z (ho.sT (hs.trans hzz))) (hr.sT hs) hc h16 W v hv yo m yc _ hy (by omega)).mono ?_;intro e w' h;refine IF h hs.size fun h0=>?_;have hg:∀ y∈ofC L ((i:Int)+1),Rgt N y:=by
   unfold stE at h0;rw [if_neg (not_not_intro hc)] at h0;split at h0
   ·cases h0
   split at h0
   ·cases h0
   split at h0
   ·cases h0
   rename_i hO;exact Wq (Classical.not_not.1 hO)
  obtain ⟨g1,g2⟩:=Tz (by have:=hc.2.1; omega) hG hg;exact ⟨hc,by rw [g2,hf]; simp,by rw [Int.toNat_natCast]; exact g1⟩
end Go.Proofs.YthcjckgmdokmdaaGreatDoor
