import Derived.Test.YtcgmohldcokccaaGreatDoorXR10
import Derived.Deep.DeepCutAuto
import Derived.Deep.RegionHeld3
set_option linter.unusedVariables false
set_option maxRecDepth 100000
namespace Go.Proofs.YtcgmohldcokccaaGreatDoor
open Go.RowKit
open Ea
theorem Fg(x:Int)(w:World):Yb 151 #[.int .i64 x] w (.bool false):=by
 have h:(x != x)=false:=by simp
 go_enter Tryz.func151,Tryz.ntmps151;go_wp2_with fail;go_ret;exact⟨by simp,rfl⟩
theorem Q1(x y:Int)(w:World):Yb 89 #[.int .i64 x,.int .i64 y] w (.int .i64 (cI x y)):=by
 have H1:=hid (fun w=>Fg x w);have H2:=hid (fun w=>Fg y w);by_cases h1:x<y
 ·have HE:Hid (cI x y=-1):=hid (by unfold cI;rw[if_pos h1]);go_enter Tryz.func89,Tryz.ntmps89;go_wp2_with fail;refine(H1.o _).mono ?_;rintro e w1 ⟨rfl,rfl⟩;go_wp2_with fail;refine(H2.o _).mono ?_;rintro e w1 ⟨rfl,rfl⟩;go_wp2_with fail;go_ret;exact⟨by rw[HE.o];rfl,rfl⟩
 ·by_cases h2:x > y
  ·have HE:Hid (cI x y=1):=hid (by unfold cI;rw[if_neg h1,if_pos h2]);go_enter Tryz.func89,Tryz.ntmps89;go_wp2_with fail;refine(H1.o _).mono ?_;rintro e w1 ⟨rfl,rfl⟩;go_wp2_with fail;refine(H2.o _).mono ?_;rintro e w1 ⟨rfl,rfl⟩;go_wp2_with fail;go_ret;exact⟨by rw[HE.o];rfl,rfl⟩
  ·have HE:Hid (cI x y=0):=hid (by unfold cI;rw[if_neg h1,if_neg h2]);go_enter Tryz.func89,Tryz.ntmps89;go_wp2_with fail;refine(H1.o _).mono ?_;rintro e w1 ⟨rfl,rfl⟩;go_wp2_with fail;refine(H2.o _).mono ?_;rintro e w1 ⟨rfl,rfl⟩;go_wp2_with fail;go_ret;exact⟨by rw[HE.o];rfl,rfl⟩
theorem Fh(l:List Int)(B n cap:Nat)(w:World)(hr:RdI w (some ⟨B,0,none⟩) n cap l):Yb 88 #[.slice (some ⟨B,0,none⟩) n cap] w (.int .i64 (orI l)):=by
 have hl:=hr.len;have hn:=hr.small;have HR:=hid hr;clear hr;go_enter Tryz.func88,Tryz.ntmps88;go_wp2_with fail;go_loopw [8] (fun u wr=>∃k:Nat,k<=n/\u=.int .i64 (k:Int)/\Hid (orI l=orI (l.drop k))/\wr=w) (fun u _=>n-(intOf u).toNat);case atStart=>exact⟨0,by omega,rfl,hid (by simp),rfl⟩
 case round =>
  obtain⟨k,hk,rfl,HE,rfl⟩:=hrel;by_cases hkn:k<n
  ·have hlt:(k:Int)<(n:Int):=by omega
   have c0:=HR.o.byte (k:=k) (by omega);rw[Nat.zero_add]at c0;have HD:Hid (orI (l.drop k)=if l[k]'(by omega)≠0 then l[k]'(by omega)else orI (l.drop (k+1))):=hid (by rw[List.drop_eq_getElem_cons (by omega)];rfl);obtain⟨x,ex⟩:∃x,l[k]'(by omega)=x:=⟨_,rfl⟩;rw[ex]at c0 HD;clear ex;by_cases hx:x=0
   ·have HE2:Hid (orI l=orI (l.drop (k+1))):=hid (by rw[HE.o,HD.o,if_neg (by simpa using hx)]);subst hx;clear HE HD;go_wp2_with fail;go_roundw;case rel=>exact⟨k+1,by omega,by go_num,HE2,by trivial⟩
    case measure=>simp[intOf];omega
   ·have HE2:Hid (orI l=x):=hid (by rw[HE.o,HD.o,if_pos (by simpa using hx)]);have hx':(x != 0)=true:=by simpa using hx
    clear HE HD hx;go_wp2_with fail
    (try rw[Exit.noGoto_ret])
    go_ret;exact⟨by rw[HE2.o];rfl,rfl⟩
  ·have hge:¬(k:Int)<(n:Int):=by omega
   have HE2:Hid (orI l=0):=hid (by rw[HE.o,List.drop_eq_nil_of_le (by omega)];rfl);clear HE;go_wp2_with fail;go_ret;exact⟨by rw[HE2.o];rfl,rfl⟩
end Go.Proofs.YtcgmohldcokccaaGreatDoor
