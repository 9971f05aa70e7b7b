import Derived.Test.YtcgmohldcokccaaGreatDoorXR11
import Derived.Test.YtcgmohldcokccaaGreatDoorXR24
set_option linter.unusedVariables false
set_option maxHeartbeats 1000000
set_option maxRecDepth 100000
namespace Go.Proofs.YtcgmohldcokccaaGreatDoor
open Go.RowKit
open Pu Gp Ap Vp Np Za Ka Ja Ea Ha Hg
theorem PJ(L:List Mv)(ao:Option Addr)(n cap:Nat)(w:World)(hr:RdG KM w ao n L):Calls Tryz.prog 94 #[.slice ao n cap,.func (.func 95) #[] #[]] w fun e w'=>IsB e (∀i,i<L.length->YC (mm L i)=0)/\Yc w w':=by
 have HR:=hid hr;have h47:n<=281474976710656:=hr.2.1;have HL:Hid (n=L.length):=hid (by have:=hr.1;omega);clear hr;go_enter Tryz.func94,Tryz.ntmps94;go_wp2_with fail;go_loopw [9] (fun u wr=>∃k:Nat,k<=n/\u=.int .i64 (k:Int)/\Hid (∀i,i<k->YC (mm L i)=0)/\Yc w wr) (fun u _=>n-(intOf u).toNat);case atStart=>exact⟨0,by omega,rfl,hid (fun i hi=>by omega),Fr.refl _ _⟩
 case round =>
  obtain⟨k,hk,rfl,HK,hs⟩:=hrel;by_cases hkn:k<n
  ·have hlt:(k:Int)<(n:Int):=by omega
   have hr1:=HR.o.sT hs;obtain⟨B,o,rfl⟩:=hr1.at (by omega);obtain⟨c0,c1,c2,c3,c4,c5,c6,c7,c8,c9,c10,c11,c12⟩:=rdM hr1 hkn;have HM:=hid (fun u=>V5 (mm L k) u);have HE:=hid (show YC (mm L k)=0->∀i,i<k+1->YC (mm L i)=0 from fun h i hi=>by
    by_cases e:i=k
    ·subst e;exact h
    ·exact HK.o i (by omega))
   have HN:=hid (show YC (mm L k)≠0->¬∀i,i<L.length->YC (mm L i)=0 from fun h h2=>h (h2 k (by have:=HL.o;omega)));obtain⟨x,ex⟩:∃x,mm L k=x:=⟨_,rfl⟩;rw[ex]at c0 c1 c2 c3 c4 c5 c6 c7 c8 c9 c10 c11 c12 HM HE HN;obtain⟨e0,e1,e2,e3,e4,e5,e6,e7,e8,e9,e10,e11,e12,ef⟩:=(Va wr x).cells;have HS1:=hid (hs.trans (sA wr (.cells (mcs x) 59)));obtain⟨r,er⟩:∃r,YC x=r:=⟨_,rfl⟩;rw[er]at HM HE HN;clear hs hr1 HK ex er;go_wp2_with fail;refine(HM.o _).mono ?_;rintro e w1 ⟨rfl,h1⟩;have HS2:=hid (HS1.o.trans h1);clear h1 HS1 c0 c1 c2 c3 c4 c5 c6 c7 c8 c9 c10 c11 c12 e0 e1 e2 e3 e4 e5 e6 e7 e8 e9 e10 e11 e12 ef;by_cases hz:r=0
   ·have hz':(r != 0)=false:=by simpa using hz
    have HE2:=hid (HE.o hz);clear hz HE HN;go_wp2_with fail;go_roundw;case rel=>exact⟨k+1,by omega,by go_num,HE2,HS2.o⟩
    case measure=>simp[intOf];omega
   ·have hz':(r != 0)=true:=by simpa using hz
    have HE2:=hid (HN.o hz);clear hz HE HN;go_wp2_with fail
    (try rw[Exit.noGoto_ret])
    go_ret;exact⟨IsB.no HE2.o,HS2.o⟩
  ·have hge:¬(k:Int)<(n:Int):=by omega
   have HE:=hid (show ∀i,i<L.length->YC (mm L i)=0 from fun i hi=>HK.o i (by have:=HL.o;omega));have HS1:=hid hs;clear hs HK;go_wp2_with fail;go_ret;exact⟨IsB.yes HE.o,HS1.o⟩
theorem PK(L:List Scr)(ao:Option Addr)(n cap:Nat)(w:World)(hr:RdG KC w ao n L):Calls Tryz.prog 96 #[.slice ao n cap,.func (.func 97) #[] #[]] w fun e w'=>IsB e (∀i,i<L.length->YZ (sc L i)=0)/\Yc w w':=by
 have HR:=hid hr;have h47:n<=281474976710656:=hr.2.1;have HL:Hid (n=L.length):=hid (by have:=hr.1;omega);clear hr;go_enter Tryz.func96,Tryz.ntmps96;go_wp2_with fail;go_loopw [9] (fun u wr=>∃k:Nat,k<=n/\u=.int .i64 (k:Int)/\Hid (∀i,i<k->YZ (sc L i)=0)/\Yc w wr) (fun u _=>n-(intOf u).toNat);case atStart=>exact⟨0,by omega,rfl,hid (fun i hi=>by omega),Fr.refl _ _⟩
 case round =>
  obtain⟨k,hk,rfl,HK,hs⟩:=hrel;by_cases hkn:k<n
  ·have hlt:(k:Int)<(n:Int):=by omega
   have hr1:=HR.o.sT hs;obtain⟨B,o,rfl⟩:=hr1.at (by omega);obtain⟨c0,c1,c2,c3⟩:=rdC hr1 hkn;have HM:=hid (fun u=>MS (sc L k) u);have HE:=hid (show YZ (sc L k)=0->∀i,i<k+1->YZ (sc L i)=0 from fun h i hi=>by
    by_cases e:i=k
    ·subst e;exact h
    ·exact HK.o i (by omega))
   have HN:=hid (show YZ (sc L k)≠0->¬∀i,i<L.length->YZ (sc L i)=0 from fun h h2=>h (h2 k (by have:=HL.o;omega)));obtain⟨x,ex⟩:∃x,sc L k=x:=⟨_,rfl⟩;rw[ex]at c0 c1 c2 c3 HM HE HN;obtain⟨e0,e1,e2,e3,ef⟩:=(Nm wr x).cells;have HS1:=hid (hs.trans (sA wr (.cells (ccs x) 67)));obtain⟨r,er⟩:∃r,YZ x=r:=⟨_,rfl⟩;rw[er]at HM HE HN;clear hs hr1 HK ex er;go_wp2_with fail;refine(HM.o _).mono ?_;rintro e w1 ⟨rfl,h1⟩;have HS2:=hid (HS1.o.trans h1);clear h1 HS1 c0 c1 c2 c3 e0 e1 e2 e3 ef;by_cases hz:r=0
   ·have hz':(r != 0)=false:=by simpa using hz
    have HE2:=hid (HE.o hz);clear hz HE HN;go_wp2_with fail;go_roundw;case rel=>exact⟨k+1,by omega,by go_num,HE2,HS2.o⟩
    case measure=>simp[intOf];omega
   ·have hz':(r != 0)=true:=by simpa using hz
    have HE2:=hid (HN.o hz);clear hz HE HN;go_wp2_with fail
    (try rw[Exit.noGoto_ret])
    go_ret;exact⟨IsB.no HE2.o,HS2.o⟩
  ·have hge:¬(k:Int)<(n:Int):=by omega
   have HE:=hid (show ∀i,i<L.length->YZ (sc L i)=0 from fun i hi=>HK.o i (by have:=HL.o;omega));have HS1:=hid hs;clear hs HK;go_wp2_with fail;go_ret;exact⟨IsB.yes HE.o,HS1.o⟩
theorem PL(L:List Sh)(ao:Option Addr)(n cap:Nat)(w:World)(hr:RdG KS w ao n L):Calls Tryz.prog 98 #[.slice ao n cap,.func (.func 99) #[] #[]] w fun e w'=>IsB e (∀i,i<L.length->YM (ss L i)=0)/\Yc w w':=by
 have HR:=hid hr;have h47:n<=281474976710656:=hr.2.1;have HL:Hid (n=L.length):=hid (by have:=hr.1;omega);clear hr;go_enter Tryz.func98,Tryz.ntmps98;go_wp2_with fail;go_loopw [9] (fun u wr=>∃k:Nat,k<=n/\u=.int .i64 (k:Int)/\Hid (∀i,i<k->YM (ss L i)=0)/\Yc w wr) (fun u _=>n-(intOf u).toNat);case atStart=>exact⟨0,by omega,rfl,hid (fun i hi=>by omega),Fr.refl _ _⟩
 case round =>
  obtain⟨k,hk,rfl,HK,hs⟩:=hrel;by_cases hkn:k<n
  ·have hlt:(k:Int)<(n:Int):=by omega
   have hr1:=HR.o.sT hs;obtain⟨B,o,rfl⟩:=hr1.at (by omega);obtain⟨c0,c1,c2,c3,c4,c5,c6,c7⟩:=rdS hr1 hkn;have HM:=hid (fun u=>Eg (ss L k) u);have HE:=hid (show YM (ss L k)=0->∀i,i<k+1->YM (ss L i)=0 from fun h i hi=>by
    by_cases e:i=k
    ·subst e;exact h
    ·exact HK.o i (by omega))
   have HN:=hid (show YM (ss L k)≠0->¬∀i,i<L.length->YM (ss L i)=0 from fun h h2=>h (h2 k (by have:=HL.o;omega)));obtain⟨x,ex⟩:∃x,ss L k=x:=⟨_,rfl⟩;rw[ex]at c0 c1 c2 c3 c4 c5 c6 c7 HM HE HN;obtain⟨e0,e1,e2,e3,e4,e5,e6,e7,ef⟩:=(Ua wr x).cells;have HS1:=hid (hs.trans (sA wr (.cells (scs x) 69)));obtain⟨r,er⟩:∃r,YM x=r:=⟨_,rfl⟩;rw[er]at HM HE HN;clear hs hr1 HK ex er;go_wp2_with fail;refine(HM.o _).mono ?_;rintro e w1 ⟨rfl,h1⟩;have HS2:=hid (HS1.o.trans h1);clear h1 HS1 c0 c1 c2 c3 c4 c5 c6 c7 e0 e1 e2 e3 e4 e5 e6 e7 ef;by_cases hz:r=0
   ·have hz':(r != 0)=false:=by simpa using hz
    have HE2:=hid (HE.o hz);clear hz HE HN;go_wp2_with fail;go_roundw;case rel=>exact⟨k+1,by omega,by go_num,HE2,HS2.o⟩
    case measure=>simp[intOf];omega
   ·have hz':(r != 0)=true:=by simpa using hz
    have HE2:=hid (HN.o hz);clear hz HE HN;go_wp2_with fail
    (try rw[Exit.noGoto_ret])
    go_ret;exact⟨IsB.no HE2.o,HS2.o⟩
  ·have hge:¬(k:Int)<(n:Int):=by omega
   have HE:=hid (show ∀i,i<L.length->YM (ss L i)=0 from fun i hi=>HK.o i (by have:=HL.o;omega));have HS1:=hid hs;clear hs HK;go_wp2_with fail;go_ret;exact⟨IsB.yes HE.o,HS1.o⟩
end Go.Proofs.YtcgmohldcokccaaGreatDoor
