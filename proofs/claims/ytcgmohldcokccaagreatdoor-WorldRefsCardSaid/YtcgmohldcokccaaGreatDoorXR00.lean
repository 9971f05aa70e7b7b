import Derived.Test.YtcgmohldcokccaaGreatDoorProg
import Derived.WalkKit
import Derived.WalkLawsBesides
import Derived.Lib.Hide
import Derived.Laws.BitsLemmas
set_option linter.unusedVariables false
set_option maxRecDepth 100000
namespace Go.Proofs.YtcgmohldcokccaaGreatDoor
namespace Pu
def bnd(n:Int):Int:=if n < -2147483647 then -2147483647 else if 2147483647<n then 2147483647 else n
theorem Yn(n:Int):-2147483647<=bnd n:=by
 unfold bnd;repeat' split
 all_goals omega
theorem Yo(n:Int):bnd n<=2147483647:=by
 unfold bnd;repeat' split
 all_goals omega
theorem bnd_id{n:Int}(h:-2147483647<=n)(h2:n<=2147483647):bnd n=n:=by unfold bnd;rw[if_neg (by omega),if_neg (by omega)]
theorem Wi{n:Int}(h:2147483647<=n):bnd n=2147483647:=by
 unfold bnd;repeat' split
 all_goals omega
theorem Wj{n:Int}(h:n <= -2147483647):bnd n=-2147483647:=by
 unfold bnd;repeat' split
 all_goals omega
theorem VL{a b:Int}(h:a<=b):bnd a<=bnd b:=by
 unfold bnd;repeat' split
 all_goals omega
def rnd(n d:Int):Int:=if n<0 then -((-n+d / 2) / d)else(n+d / 2) / d
theorem QV{n d:Int}(h:0<=n):rnd n d=(n+d / 2) / d:=by unfold rnd;rw[if_neg (by omega)]
theorem Wl(n d:Int)(hd:1<=d):rnd (-n) d=-rnd n d:=by
 unfold rnd;by_cases h:n<0
 ·rw[if_neg (by omega),if_pos h];omega
 ·by_cases h0:n=0
  ·subst h0;have:(d / 2) / d=0:=Int.ediv_eq_zero_of_lt (by omega) (by omega);simp[this]
  ·rw[if_pos (by omega),if_neg h];simp
theorem TW{n d:Int}(h:n<0):rnd n d=-((-n+d / 2) / d):=by unfold rnd;rw[if_pos h]
theorem Wm{a b:Int}(ha:-2147483647<=a)(ha2:a<=2147483647)(hb:-2147483647<=b)(hb2:b<=2147483647) :
  -4611686014132420609<=a*b/\a*b<=4611686014132420609:=by
 have e:(4611686014132420609:Int)=2147483647*2147483647:=by decide
 have h:(a*b).natAbs<=2147483647*2147483647:=by
  rw[Int.natAbs_mul];exact Nat.mul_le_mul (by omega) (by omega)
 omega
theorem QW{n d:Int}(hn:0<=n)(hd:1<=d):0<=(n+d / 2) / d/\(n+d / 2) / d<=n+1:=by
 refine⟨Int.ediv_nonneg (by omega) (by omega),?_⟩;have h1:(n+d / 2) / d<=(n+d / 2) / d*d+0:=by
  have h0:0<=(n+d / 2) / d:=Int.ediv_nonneg (by omega) (by omega);have:=Int.mul_le_mul_of_nonneg_left hd h0;omega
 by_cases hc:n=0
 ·subst hc;have:(0+d / 2) / d=0:=Int.ediv_eq_zero_of_lt (by omega) (by omega);omega
 have h2:(n+d / 2) / d<n+1+1:=by
  apply Int.ediv_lt_of_lt_mul (by omega);have:(n+1+1)*d=n*d+d+d:=by rw[Int.add_mul,Int.add_mul];omega
  have h3:n*1<=n*d:=Int.mul_le_mul_of_nonneg_left hd hn;omega
 omega
theorem Wn{n d:Int}(hd:1<=d):-(n.natAbs:Int)-1<=rnd n d/\rnd n d<=(n.natAbs:Int)+1:=by
 by_cases h:n<0
 ·rw[TW h];have:=@QW (-n) d (by omega) hd;omega
 ·rw[QV (by omega)];have:=@QW n d (by omega) hd;omega
theorem TX{n d:Int}(hd:1<=d)(h:2*(n-n / d*d)<d):(n+d / 2) / d=n / d:=by
 have h1:=Int.emod_add_mul_ediv n d;have h2:=Int.emod_nonneg n (show d≠0 by omega);have h3:=Int.emod_lt_of_pos n (show 0<d by omega);rw[Int.mul_comm]at h1;have e:n+d / 2=(n % d+d / 2)+n / d*d:=by omega
 rw[e,Int.add_mul_ediv_right _ _ (by omega),Int.ediv_eq_zero_of_lt (by omega) (by omega)];omega
theorem TY{n d:Int}(hd:1<=d)(h:d<=2*(n-n / d*d)):(n+d / 2) / d=n / d+1:=by
 have h1:=Int.emod_add_mul_ediv n d;have h2:=Int.emod_nonneg n (show d≠0 by omega);have h3:=Int.emod_lt_of_pos n (show 0<d by omega);rw[Int.mul_comm]at h1;have e:n+d / 2=(n % d+d / 2-d)+(n / d+1)*d:=by rw[Int.add_mul];omega
 rw[e,Int.add_mul_ediv_right _ _ (by omega),Int.ediv_eq_zero_of_lt (by omega) (by omega)];omega
def Yd(a b:Int):Int:=bnd (bnd a+bnd b)
def Ye(a b:Int):Int:=bnd (bnd a-bnd b)
def Y7(a b:Int):Int:=bnd (rnd (bnd a*bnd b) 256)
def off(x:Int):Int:=bnd (bnd x*256)
def Yl(x l m:Int):Int:=if bnd m<(if bnd x<bnd l then bnd l else bnd x)then bnd m else(if bnd x<bnd l then bnd l else bnd x)
def QX:Nat->Int->Int->Int
 | 0,r,_=>r
 | k+1,r,N=>if(r+2 ^ k)*(r+2 ^ k)<=N then QX k (r+2 ^ k) N else QX k r N
/-! ### What the laws ask -/
theorem back{x y:Int}(hx:bnd x=x)(hy:bnd y=y)(h1:-2147483647<Yd x y)(h2:Yd x y<2147483647):Ye (Yd x y) y=x:=by
 have e:Yd x y=x+y:=by
  unfold Yd at *
  rw[hx,hy]at *
  rcases Int.lt_trichotomy (x+y) 0 with h|h|h;all_goals
   unfold bnd at h1 h2⊢;repeat' split
   all_goals first|omega|(split at h1<;>omega)
 unfold Ye;rw[hy,e,bnd_id (n:=x+y) (by omega) (by omega),show x+y-y=x by omega,hx]
end Pu
namespace Gp
open Pu
/-! ### Lengths -/
def sq2(x y:Int):Int:=x*x+y*y
def TZ(n:Int):Int:=QX 32 0 n
def far(x y:Int):Int:=TZ (sq2 x y)
/-! ### Caps -/
def part(x m k:Int):Int:=(x*m).tdiv k
/-! ### Directions -/
theorem Aa(n:Int):(if n.tmod 16<0 then n.tmod 16+16 else n.tmod 16)=n % 16:=by
 rcases Int.le_total 0 n with h|h
 ·rw[Int.tmod_eq_emod_of_nonneg h];split<;>omega
 ·have e:n.tmod 16=-((-n) % 16):=by
   rw[<- Int.tmod_eq_emod_of_nonneg (show 0 <= -n by omega),Int.neg_tmod];omega
  rw[e];split<;>omega
def unitX:List Int:=[256,237,181,98,0,-98,-181,-237,-256,-237,-181,-98,0,98,181,237]
def unitY:List Int:=[0,98,181,237,256,237,181,98,0,-98,-181,-237,-256,-237,-181,-98]
def ux(d:Nat):Int:=unitX.getD d 0
def uy(d:Nat):Int:=unitY.getD d 0
/-! ### Boxes: the four numbers -/
def okB(ax ay bx byy:Int):Prop:=-2147483647<=ax/\ax<=2147483647/\-2147483647<=ay/\ay<=2147483647/\-2147483647<=bx/\bx<=2147483647/\-2147483647<=byy/\byy<=2147483647/\ax<=bx/\ay<=byy
def mx(a b:Int):Int:=if a<b then b else a
end Gp
section
open Go.RowKit
open Pu
theorem Ze{k:IntKind}{a b:Int}(h:a=b):Ending.returned (.int k a)=.returned (.int k b):=by rw[h]
theorem Vs(n:Int)(w:World):Calls Tryz.prog 201 #[.int .i64 n] w fun e w'=>e=.returned (.int .i64 (bnd n))/\w'=w:=by
 have h3:n < -2147483647\/(-2147483647<=n/\n<=2147483647)\/2147483647<n:=by omega
 rcases h3 with h|⟨h,h'⟩|h
 ·have e:bnd n=-2147483647:=Wj (by omega);rw[e];clear e
  go_enter Tryz.func201,Tryz.ntmps201;go_wp2
  go_ret;exact⟨rfl,rfl⟩
 ·have e:bnd n=n:=bnd_id h h';rw[e];clear e
  go_enter Tryz.func201,Tryz.ntmps201;go_wp2
  go_ret;exact⟨rfl,rfl⟩
 ·have e:bnd n=2147483647:=Wi (by omega);rw[e];clear e
  go_enter Tryz.func201,Tryz.ntmps201;go_wp2
  go_ret;exact⟨rfl,rfl⟩
theorem XC(n:Int)(w:World):Calls Tryz.prog 140 #[.int .i64 n] w fun e w'=>e=.returned (.int .i64 (bnd n))/\w'=w:=by
 have h3:n < -2147483647\/(-2147483647<=n/\n<=2147483647)\/2147483647<n:=by omega
 rcases h3 with h|⟨h,h'⟩|h
 ·have e:bnd n=-2147483647:=Wj (by omega);rw[e];clear e
  have h2:¬2147483647<n:=by omega
  go_enter Tryz.func140,Tryz.ntmps140;go_wp2
  go_ret;exact⟨rfl,rfl⟩
 ·have e:bnd n=n:=bnd_id h h';rw[e];clear e
  go_enter Tryz.func140,Tryz.ntmps140;go_wp2
  go_ret;exact⟨rfl,rfl⟩
 ·have e:bnd n=2147483647:=Wi (by omega);rw[e];clear e
  go_enter Tryz.func140,Tryz.ntmps140;go_wp2
  go_ret;exact⟨rfl,rfl⟩
theorem Ac(a b:Int)(w:World):Calls Tryz.prog 312 #[.int .i64 a,.int .i64 b] w fun e w'=>e=.returned (.int .i64 (Yd a b))/\w'=w:=by
 have a1:=Yn a;have a2:=Yo a;have b1:=Yn b;have b2:=Yo b;go_enter Tryz.func312,Tryz.ntmps312;go_wp2_with (go_at_call 201;refine(Vs _ _).mono ?_;rintro e w' ⟨rfl,rfl⟩);go_ret;exact⟨rfl,rfl⟩
theorem Ad(a b:Int)(w:World):Calls Tryz.prog 190 #[.int .i64 a,.int .i64 b] w fun e w'=>e=.returned (.int .i64 (Yd a b))/\w'=w:=by
 have a1:=Yn a;have a2:=Yo a;have b1:=Yn b;have b2:=Yo b;go_enter Tryz.func190,Tryz.ntmps190;go_wp2_with (go_at_call 140;refine(XC _ _).mono ?_;rintro e w' ⟨rfl,rfl⟩);go_ret;exact⟨rfl,rfl⟩
theorem Ae(a b:Int)(w:World):Calls Tryz.prog 325 #[.int .i64 a,.int .i64 b] w fun e w'=>e=.returned (.int .i64 (Ye a b))/\w'=w:=by
 have a1:=Yn a;have a2:=Yo a;have b1:=Yn b;have b2:=Yo b;go_enter Tryz.func325,Tryz.ntmps325;go_wp2_with (go_at_call 201;refine(Vs _ _).mono ?_;rintro e w' ⟨rfl,rfl⟩);go_ret;exact⟨rfl,rfl⟩
theorem Af(a b:Int)(w:World):Calls Tryz.prog 262 #[.int .i64 a,.int .i64 b] w fun e w'=>e=.returned (.int .i64 (Ye a b))/\w'=w:=by
 have a1:=Yn a;have a2:=Yo a;have b1:=Yn b;have b2:=Yo b;go_enter Tryz.func262,Tryz.ntmps262;go_wp2_with (go_at_call 140;refine(XC _ _).mono ?_;rintro e w' ⟨rfl,rfl⟩);go_ret;exact⟨rfl,rfl⟩
theorem Wo(n d:Int)(w:World)(h0:0<=n)(h1:n<=4611686018427387904)(d1:1<=d)(d2:d<=4611686018427387904) :
  Calls Tryz.prog 330 #[.int .i64 n,.int .i64 d] w fun e w'=>e=.returned (.int .i64 (rnd n d))/\w'=w:=by
 have q:=@QW n d h0 d1;obtain⟨q1,q2⟩:=q;have e:rnd n d=(n+d / 2) / d:=QV h0;rw[e];clear e
 go_enter Tryz.func330,Tryz.ntmps330;go_wp2_with fail;go_ret;exact⟨rfl,rfl⟩
theorem Ag(n d:Int)(w:World)(h0:-4611686018427387904<=n)(h1:n<=4611686018427387904)(d1:1<=d)(d2:d<=4611686018427387904) :
  Calls Tryz.prog 330 #[.int .i64 n,.int .i64 d] w fun e w'=>e=.returned (.int .i64 (rnd n d))/\w'=w:=by
 by_cases hn:n<0
 ·have q:=@Wn (-n) d d1;obtain⟨q1,q2⟩:=q;have e:rnd n d=-rnd (-n) d:=by rw[Wl _ _ d1];omega
  rw[e];clear e
  have q3:-4611686018427387905<=rnd (-n) d:=by omega
  have q4:rnd (-n) d<=4611686018427387905:=by omega
  clear q1 q2;go_enter Tryz.func330,Tryz.ntmps330;go_wp2_with (go_at_call 330;refine(Wo _ _ _ (by omega) (by omega) d1 d2).mono ?_;rintro e w' ⟨rfl,rfl⟩);go_ret;exact⟨rfl,rfl⟩
 ·exact Wo n d w (by omega) h1 d1 d2
theorem Wp(n d:Int)(w:World)(h0:0<=n)(h1:n<=4611686018427387904)(d1:1<=d)(d2:d<=2147483647) :
  Calls Tryz.prog 259 #[.int .i64 n,.int .i64 d] w fun e w'=>e=.returned (.int .i64 (rnd n d))/\w'=w:=by
 have e:rnd n d=(n+d / 2) / d:=QV h0;have z1:=Int.emod_add_mul_ediv n d;have z2:=Int.emod_nonneg n (show d≠0 by omega);have z3:=Int.emod_lt_of_pos n (show 0<d by omega);rw[Int.mul_comm]at z1;have m1:n / d*d<=n:=by omega
 have m2:n-n / d*d<d:=by omega
 have q1:0<=n / d:=Int.ediv_nonneg h0 (by omega);have m3:0<=n / d*d:=Int.mul_nonneg q1 (by omega);have q2:n / d<=n:=Int.ediv_le_self _ h0;clear z1 z2 z3;by_cases h:d<=2*(n-n / d*d)
 ·rw[e,TY d1 h];clear e
  go_enter Tryz.func259,Tryz.ntmps259;go_wp2_with fail;go_ret;exact⟨rfl,rfl⟩
 ·rw[e,TX d1 (by omega)];clear e
  go_enter Tryz.func259,Tryz.ntmps259;go_wp2_with fail;go_ret;exact⟨rfl,rfl⟩
theorem Ah(n d:Int)(w:World)(h0:-4611686018427387904<=n)(h1:n<=4611686018427387904)(d1:1<=d)(d2:d<=2147483647) :
  Calls Tryz.prog 259 #[.int .i64 n,.int .i64 d] w fun e w'=>e=.returned (.int .i64 (rnd n d))/\w'=w:=by
 by_cases hn:n<0
 ·have q:=@Wn (-n) d d1;obtain⟨q1,q2⟩:=q;have e:rnd n d=-rnd (-n) d:=by rw[Wl _ _ d1];omega
  rw[e];clear e
  have q3:-4611686018427387905<=rnd (-n) d:=by omega
  have q4:rnd (-n) d<=4611686018427387905:=by omega
  clear q1 q2;go_enter Tryz.func259,Tryz.ntmps259;go_wp2_with (go_at_call 259;refine(Wp _ _ _ (by omega) (by omega) d1 d2).mono ?_;rintro e w' ⟨rfl,rfl⟩);go_ret;exact⟨rfl,rfl⟩
 ·exact Wp n d w (by omega) h1 d1 d2
theorem Ai(a b:Int)(w:World):Calls Tryz.prog 313 #[.int .i64 a,.int .i64 b] w fun e w'=>e=.returned (.int .i64 (Y7 a b))/\w'=w:=by
 obtain⟨m1,m2⟩:=Wm (Yn a) (Yo a) (Yn b) (Yo b);go_enter Tryz.func313,Tryz.ntmps313;go_wp2_with (first|(go_at_call 201;refine(Vs _ _).mono ?_;rintro e w' ⟨rfl,rfl⟩)|(go_at_call 330;refine(Ag _ _ _ (by omega) (by omega) (by omega) (by omega)).mono ?_;rintro e w' ⟨rfl,rfl⟩));go_ret;exact⟨rfl,rfl⟩
theorem Aj(a b:Int)(w:World):Calls Tryz.prog 189 #[.int .i64 a,.int .i64 b] w fun e w'=>e=.returned (.int .i64 (Y7 a b))/\w'=w:=by
 obtain⟨m1,m2⟩:=Wm (Yn a) (Yo a) (Yn b) (Yo b);go_enter Tryz.func189,Tryz.ntmps189;go_wp2_with (first|(go_at_call 140;refine(XC _ _).mono ?_;rintro e w' ⟨rfl,rfl⟩)|(go_at_call 259;refine(Ah _ _ _ (by omega) (by omega) (by omega) (by omega)).mono ?_;rintro e w' ⟨rfl,rfl⟩));go_ret;exact⟨rfl,rfl⟩
theorem Ak(x l m:Int)(w:World):Calls Tryz.prog 324 #[.int .i64 x,.int .i64 l,.int .i64 m] w fun e w'=>e=.returned (.int .i64 (Yl x l m))/\w'=w:=by
 by_cases h1:bnd x<bnd l
 ·by_cases h2:bnd m<bnd l
  ·have e:Yl x l m=bnd m:=by unfold Yl;rw[if_pos h1,if_pos h2]
   rw[e];clear e
   go_enter Tryz.func324,Tryz.ntmps324;go_wp2_with (go_at_call 201;refine(Vs _ _).mono ?_;rintro e w' ⟨rfl,rfl⟩);go_ret;exact⟨rfl,rfl⟩
  ·have e:Yl x l m=bnd l:=by unfold Yl;rw[if_pos h1,if_neg h2]
   rw[e];clear e
   go_enter Tryz.func324,Tryz.ntmps324;go_wp2_with (go_at_call 201;refine(Vs _ _).mono ?_;rintro e w' ⟨rfl,rfl⟩);go_ret;exact⟨rfl,rfl⟩
 ·by_cases h2:bnd m<bnd x
  ·have e:Yl x l m=bnd m:=by unfold Yl;rw[if_neg h1,if_pos h2]
   rw[e];clear e
   go_enter Tryz.func324,Tryz.ntmps324;go_wp2_with (go_at_call 201;refine(Vs _ _).mono ?_;rintro e w' ⟨rfl,rfl⟩);go_ret;exact⟨rfl,rfl⟩
  ·have e:Yl x l m=bnd x:=by unfold Yl;rw[if_neg h1,if_neg h2]
   rw[e];clear e
   go_enter Tryz.func324,Tryz.ntmps324;go_wp2_with (go_at_call 201;refine(Vs _ _).mono ?_;rintro e w' ⟨rfl,rfl⟩);go_ret;exact⟨rfl,rfl⟩
theorem Jo(x l m:Int)(w:World):Calls Tryz.prog 122 #[.int .i64 x,.int .i64 l,.int .i64 m] w fun e w'=>e=.returned (.int .i64 (Yl x l m))/\w'=w:=by
 by_cases h1:bnd x<bnd l
 ·by_cases h2:bnd m<bnd l
  ·have e:Yl x l m=bnd m:=by unfold Yl;rw[if_pos h1,if_pos h2]
   rw[e];clear e
   go_enter Tryz.func122,Tryz.ntmps122;go_wp2_with (go_at_call 140;refine(XC _ _).mono ?_;rintro e w' ⟨rfl,rfl⟩);go_ret;exact⟨rfl,rfl⟩
  ·have e:Yl x l m=bnd l:=by unfold Yl;rw[if_pos h1,if_neg h2]
   rw[e];clear e
   go_enter Tryz.func122,Tryz.ntmps122;go_wp2_with (go_at_call 140;refine(XC _ _).mono ?_;rintro e w' ⟨rfl,rfl⟩);go_ret;exact⟨rfl,rfl⟩
 ·by_cases h2:bnd m<bnd x
  ·have e:Yl x l m=bnd m:=by unfold Yl;rw[if_neg h1,if_pos h2]
   rw[e];clear e
   go_enter Tryz.func122,Tryz.ntmps122;go_wp2_with (go_at_call 140;refine(XC _ _).mono ?_;rintro e w' ⟨rfl,rfl⟩);go_ret;exact⟨rfl,rfl⟩
  ·have e:Yl x l m=bnd x:=by unfold Yl;rw[if_neg h1,if_neg h2]
   rw[e];clear e
   go_enter Tryz.func122,Tryz.ntmps122;go_wp2_with (go_at_call 140;refine(XC _ _).mono ?_;rintro e w' ⟨rfl,rfl⟩);go_ret;exact⟨rfl,rfl⟩
end
section
open Go.RowKit
open Pu Gp
theorem Al(n:Int):bits .and .i64 n 15=n % 16:=by
 have h15:(BitVec.ofInt 64 15).toNat=2 ^ 4-1:=by decide
 have key:(BitVec.ofInt 64 n &&& BitVec.ofInt 64 15).toNat=(n % ((2 ^ 64:Nat):Int)).toNat % 2 ^ 4:=by
  rw[BitVec.toNat_and,BitVec.toNat_ofInt,h15,Nat.and_two_pow_sub_one_eq_mod]
 show IntKind.i64.wrap ((BitVec.ofInt 64 n &&& BitVec.ofInt 64 15).toNat:Nat)=n % 16;rw[key,IntKind.wrap_i64];omega
theorem Wq(n:Int)(w:World):Calls Tryz.prog 202 #[.int .i64 n] w fun e w'=>e=.returned (.int .i64 (n % 16))/\w'=w:=by
 rw[<- Al n];go_enter Tryz.func202,Tryz.ntmps202;go_wp2
 go_ret;exact⟨rfl,rfl⟩
theorem Am(d b:Int)(w:World):Calls Tryz.prog 137 #[.int .i64 d,.int .i64 b] w fun e w'=>e=.returned (.int .i64 ((d+b) % 16))/\w'=w:=by
 have l1:0<=d % 16:=by omega
 have l2:d % 16<16:=by omega
 have l3:0<=b % 16:=by omega
 have l4:b % 16<16:=by omega
 go_enter Tryz.func137,Tryz.ntmps137;go_wp2_with (go_at_call 202;refine(Wq _ _).mono ?_;rintro e w' ⟨rfl,rfl⟩);go_ret;exact⟨rfl,rfl⟩
theorem An(n:Int):-16<n.tmod 16/\n.tmod 16<16:=by
 rcases Int.le_total 0 n with h|h
 ·rw[Int.tmod_eq_emod_of_nonneg h];omega
 ·have e:n.tmod 16=-((-n) % 16):=by
   rw[<- Int.tmod_eq_emod_of_nonneg (show 0 <= -n by omega),Int.neg_tmod];omega
  omega
theorem Wr(n:Int)(w:World):Calls Tryz.prog 85 #[.int .i64 n] w fun e w'=>e=.returned (.int .i64 (n % 16))/\w'=w:=by
 have e:=Aa n;have b1:-16<n.tmod 16/\n.tmod 16<16:=An n;obtain⟨b1,b2⟩:=b1;by_cases h:n.tmod 16<0
 ·rw[if_pos h]at e;rw[<- e];clear e;go_enter Tryz.func85,Tryz.ntmps85;go_wp2
  go_ret;exact⟨rfl,rfl⟩
 ·rw[if_neg h]at e;rw[<- e];clear e;go_enter Tryz.func85,Tryz.ntmps85;go_wp2
  go_ret;exact⟨rfl,rfl⟩
theorem Ao(n:Int)(w:World):Calls Tryz.prog 297 #[.int .i64 n] w fun e w'=>e=.returned (.int .i64 (Yl n 0 2147483647))/\w'=w:=by
 go_enter Tryz.func297,Tryz.ntmps297;go_wp2_with (go_at_call 324;refine(Ak _ _ _ _).mono ?_;rintro e w' ⟨rfl,rfl⟩);go_ret;exact⟨rfl,rfl⟩
end
end Go.Proofs.YtcgmohldcokccaaGreatDoor
