import Derived.Test.YthcjckgmdokmdaaGreatDoorProg
import Derived.WalkKit
import Derived.WalkLawsBesides
import Derived.Lib.Hide
import Derived.Laws.BitsLemmas
set_option maxRecDepth 100000
namespace Go.Proofs.YthcjckgmdokmdaaGreatDoor.Pu
def bnd (n:Int):Int:=if n < -2147483647 then -2147483647 else if 2147483647<n then 2147483647 else n
theorem YO (n:Int):-2147483647<=bnd n:=by
 unfold bnd; repeat' split
 all_goals omega
theorem YP (n:Int):bnd n<=2147483647:=by
 unfold bnd; repeat' split
 all_goals omega
theorem bnd_id {n:Int} (h:-2147483647<=n) (h2:n<=2147483647):bnd n=n:=by unfold bnd; rw [if_neg (by omega),if_neg (by omega)]
theorem QS {n:Int} (h:2147483647<=n):bnd n=2147483647:=by
 unfold bnd; repeat' split
 all_goals omega
theorem QT {n:Int} (h:n <= -2147483647):bnd n=-2147483647:=by
 unfold bnd; repeat' split
 all_goals omega
theorem QU {a b:Int} (h:a<=b):bnd a<=bnd b:=by
 unfold bnd; repeat' split
 all_goals omega
def rnd (n d:Int):Int:=if n<0 then -((-n+d / 2) / d) else (n+d / 2) / d
theorem QV {n d:Int} (h:0<=n):rnd n d=(n+d / 2) / d:=by unfold rnd; rw [if_neg (by omega)]
theorem BM (n d:Int) (hd:1<=d):rnd (-n) d=-rnd n d:=by
 unfold rnd;by_cases h:n<0
 ·rw [if_neg (by omega),if_pos h]; omega
 ·by_cases h0:n=0
  ·subst h0;have:(d / 2) / d=0:=Int.ediv_eq_zero_of_lt (by omega) (by omega);simp [this]
  ·rw [if_pos (by omega),if_neg h]; simp
theorem BN {n d:Int} (h:n<0):rnd n d=-((-n+d / 2) / d):=by unfold rnd; rw [if_pos h]
theorem BO {a b:Int} (ha:-2147483647<=a) (ha2:a<=2147483647) (hb:-2147483647<=b) (hb2:b<=2147483647) :
  -4611686014132420609<=a*b/\a*b<=4611686014132420609:=by
 have e:(4611686014132420609:Int)=2147483647*2147483647:=by decide
 have h:(a*b).natAbs<=2147483647*2147483647:=by
  rw [Int.natAbs_mul]; exact Nat.mul_le_mul (by omega) (by omega)
 omega
theorem QW {n d:Int} (hn:0<=n) (hd:1<=d):0<=(n+d / 2) / d/\(n+d / 2) / d<=n+1:=by
 refine ⟨Int.ediv_nonneg (by omega) (by omega), ?_⟩;have h1:(n+d / 2) / d<=(n+d / 2) / d*d+0:=by
  have h0:0<=(n+d / 2) / d:=Int.ediv_nonneg (by omega) (by omega);have:=Int.mul_le_mul_of_nonneg_left hd h0;omega
 by_cases hc:n=0
 ·subst hc;have:(0+d / 2) / d=0:=Int.ediv_eq_zero_of_lt (by omega) (by omega);omega
 have h2:(n+d / 2) / d<n+1+1:=by
  apply Int.ediv_lt_of_lt_mul (by omega);have:(n+1+1)*d=n*d+d+d:=by rw [Int.add_mul,Int.add_mul]; omega
  have h3:n*1<=n*d:=Int.mul_le_mul_of_nonneg_left hd hn;omega
 omega
theorem BP {n d:Int} (hd:1<=d):-(n.natAbs:Int) - 1<=rnd n d/\rnd n d<=(n.natAbs:Int)+1:=by
 by_cases h:n<0
 ·rw [BN h]; have:=@QW (-n) d (by omega) hd; omega
 ·rw [QV (by omega)]; have:=@QW n d (by omega) hd; omega
theorem BQ {n d:Int} (hd:1<=d) (h:2*(n - n / d*d)<d):(n+d / 2) / d=n / d:=by
 have h1:=Int.emod_add_mul_ediv n d;have h2:=Int.emod_nonneg n (show d≠0 by omega);have h3:=Int.emod_lt_of_pos n (show 0<d by omega);rw [Int.mul_comm] at h1;have e:n+d / 2=(n % d+d / 2)+n / d*d:=by omega
 rw [e,Int.add_mul_ediv_right _ _ (by omega),Int.ediv_eq_zero_of_lt (by omega) (by omega)]; omega
theorem BR {n d:Int} (hd:1<=d) (h:d<=2*(n - n / d*d)):(n+d / 2) / d=n / d+1:=by
 have h1:=Int.emod_add_mul_ediv n d;have h2:=Int.emod_nonneg n (show d≠0 by omega);have h3:=Int.emod_lt_of_pos n (show 0<d by omega);rw [Int.mul_comm] at h1;have e:n+d / 2=(n % d+d / 2 - d)+(n / d+1)*d:=by rw [Int.add_mul]; omega
 rw [e,Int.add_mul_ediv_right _ _ (by omega),Int.ediv_eq_zero_of_lt (by omega) (by omega)]; omega
def Yj (a b:Int):Int:=bnd (bnd a+bnd b)
def Ys (a b:Int):Int:=bnd (bnd a - bnd b)
def Yw (a b:Int):Int:=bnd (rnd (bnd a*bnd b) 256)
def off (x:Int):Int:=bnd (bnd x*256)
def YB (x l m:Int):Int:=if bnd m<(if bnd x<bnd l then bnd l else bnd x) then bnd m else (if bnd x<bnd l then bnd l else bnd x)
def Kw:Nat->Int->Int->Int
 | 0,r,_=>r
 | k+1,r,N=>if (r+2 ^ k)*(r+2 ^ k)<=N then Kw k (r+2 ^ k) N else Kw k r N
/-! ### What the laws ask -/
theorem RV {x y:Int} (hx:bnd x=x) (hy:bnd y=y) (h1:-2147483647<Yj x y) (h2:Yj x y<2147483647):Ys (Yj x y) y=x:=by
 have e:Yj x y=x+y:=by
  unfold Yj at *
  rw [hx,hy] at *
  rcases Int.lt_trichotomy (x+y) 0 with h | h | h;all_goals
   unfold bnd at h1 h2 ⊢;repeat' split
   all_goals first | omega | (split at h1 <;> omega)
 unfold Ys;rw [hy,e,bnd_id (n:=x+y) (by omega) (by omega),show x+y - y=x by omega,hx]
end Go.Proofs.YthcjckgmdokmdaaGreatDoor.Pu
namespace Go.Proofs.YthcjckgmdokmdaaGreatDoor.Gp
open Pu
/-! ### Lengths -/
def sq2 (x y:Int):Int:=x*x+y*y
def BS (n:Int):Int:=Kw 32 0 n
def far (x y:Int):Int:=BS (sq2 x y)
/-! ### Caps -/
def part (x m k:Int):Int:=(x*m).tdiv k
/-! ### Directions -/
theorem BT (n:Int):(if n.tmod 16<0 then n.tmod 16+16 else n.tmod 16)=n % 16:=by
 rcases Int.le_total 0 n with h | h
 ·rw [Int.tmod_eq_emod_of_nonneg h];split <;> omega
 ·have e:n.tmod 16=-((-n) % 16):=by
   rw [<- Int.tmod_eq_emod_of_nonneg (show 0 <= -n by omega),Int.neg_tmod]; omega
  rw [e];split <;> omega
def unitX:List Int:=[256,237,181,98,0,-98,-181,-237,-256,-237,-181,-98,0,98,181,237]
def unitY:List Int:=[0,98,181,237,256,237,181,98,0,-98,-181,-237,-256,-237,-181,-98]
def ux (d:Nat):Int:=unitX.getD d 0
def uy (d:Nat):Int:=unitY.getD d 0
def dot (x y:Int) (d:Nat):Int:=x*ux d+y*uy d
/-! ### Boxes: the four numbers -/
def okB (ax ay bx byy:Int):Prop:=-2147483647<=ax/\ax<=2147483647/\-2147483647<=ay/\ay<=2147483647/\-2147483647<=bx/\bx<=2147483647/\-2147483647<=byy/\byy<=2147483647/\ax<=bx/\ay<=byy
end Go.Proofs.YthcjckgmdokmdaaGreatDoor.Gp
namespace Go.Proofs.YthcjckgmdokmdaaGreatDoor
open Go.RowKit
open Pu
theorem Zb {k:IntKind} {a b:Int} (h:a=b):Ending.returned (.int k a)=.returned (.int k b):=by rw [h]
theorem BU (n:Int) (w:World):Calls Tryz.prog 206 #[.int .i64 n] w fun e w'=>e=.returned (.int .i64 (bnd n))/\w'=w:=by
 have h3:n < -2147483647\/(-2147483647<=n/\n<=2147483647)\/2147483647<n:=by omega
 rcases h3 with h | ⟨h,h'⟩ | h
 ·have e:bnd n=-2147483647:=QT (by omega);rw [e]; clear e
  go_enter Tryz.func206,Tryz.ntmps206;go_wp2
  go_ret;exact ⟨rfl,rfl⟩
 ·have e:bnd n=n:=bnd_id h h';rw [e]; clear e
  go_enter Tryz.func206,Tryz.ntmps206;go_wp2
  go_ret;exact ⟨rfl,rfl⟩
 ·have e:bnd n=2147483647:=QS (by omega);rw [e]; clear e
  go_enter Tryz.func206,Tryz.ntmps206;go_wp2
  go_ret;exact ⟨rfl,rfl⟩
theorem XI (n:Int) (w:World):Calls Tryz.prog 109 #[.int .i64 n] w fun e w'=>e=.returned (.int .i64 (bnd n))/\w'=w:=by
 have h3:n < -2147483647\/(-2147483647<=n/\n<=2147483647)\/2147483647<n:=by omega
 rcases h3 with h | ⟨h,h'⟩ | h
 ·have e:bnd n=-2147483647:=QT (by omega);rw [e]; clear e
  have h2:¬ 2147483647<n:=by omega
  go_enter Tryz.func109,Tryz.ntmps109;go_wp2
  go_ret;exact ⟨rfl,rfl⟩
 ·have e:bnd n=n:=bnd_id h h';rw [e]; clear e
  go_enter Tryz.func109,Tryz.ntmps109;go_wp2
  go_ret;exact ⟨rfl,rfl⟩
 ·have e:bnd n=2147483647:=QS (by omega);rw [e]; clear e
  go_enter Tryz.func109,Tryz.ntmps109;go_wp2
  go_ret;exact ⟨rfl,rfl⟩
theorem BV (a b:Int) (w:World):Calls Tryz.prog 151 #[.int .i64 a,.int .i64 b] w fun e w'=>e=.returned (.int .i64 (Yj a b))/\w'=w:=by
 have a1:=YO a;have a2:=YP a;have b1:=YO b;have b2:=YP b;go_enter Tryz.func151,Tryz.ntmps151;go_wp2_with (go_at_call 109; refine (XI _ _).mono ?_; rintro e w' ⟨rfl,rfl⟩);go_ret;exact ⟨rfl,rfl⟩
theorem BW (a b:Int) (w:World):Calls Tryz.prog 181 #[.int .i64 a,.int .i64 b] w fun e w'=>e=.returned (.int .i64 (Ys a b))/\w'=w:=by
 have a1:=YO a;have a2:=YP a;have b1:=YO b;have b2:=YP b;go_enter Tryz.func181,Tryz.ntmps181;go_wp2_with (go_at_call 109; refine (XI _ _).mono ?_; rintro e w' ⟨rfl,rfl⟩);go_ret;exact ⟨rfl,rfl⟩
theorem QX (n d:Int) (w:World) (h0:0<=n) (h1:n<=4611686018427387904) (d1:1<=d) (d2:d<=2147483647) :
  Calls Tryz.prog 179 #[.int .i64 n,.int .i64 d] w fun e w'=>e=.returned (.int .i64 (rnd n d))/\w'=w:=by
 have e:rnd n d=(n+d / 2) / d:=QV h0;have z1:=Int.emod_add_mul_ediv n d;have z2:=Int.emod_nonneg n (show d≠0 by omega);have z3:=Int.emod_lt_of_pos n (show 0<d by omega);rw [Int.mul_comm] at z1;have m1:n / d*d<=n:=by omega
 have m2:n - n / d*d<d:=by omega
 have q1:0<=n / d:=Int.ediv_nonneg h0 (by omega);have m3:0<=n / d*d:=Int.mul_nonneg q1 (by omega);have q2:n / d<=n:=Int.ediv_le_self _ h0;clear z1 z2 z3;by_cases h:d<=2*(n - n / d*d)
 ·rw [e,BR d1 h]; clear e
  go_enter Tryz.func179,Tryz.ntmps179;go_wp2_with fail;go_ret;exact ⟨rfl,rfl⟩
 ·rw [e,BQ d1 (by omega)]; clear e
  go_enter Tryz.func179,Tryz.ntmps179;go_wp2_with fail;go_ret;exact ⟨rfl,rfl⟩
theorem BX (n d:Int) (w:World) (h0:-4611686018427387904<=n) (h1:n<=4611686018427387904) (d1:1<=d) (d2:d<=2147483647) :
  Calls Tryz.prog 179 #[.int .i64 n,.int .i64 d] w fun e w'=>e=.returned (.int .i64 (rnd n d))/\w'=w:=by
 by_cases hn:n<0
 ·have q:=@BP (-n) d d1;obtain ⟨q1,q2⟩:=q;have e:rnd n d=-rnd (-n) d:=by rw [BM _ _ d1]; omega
  rw [e]; clear e
  have q3:-4611686018427387905<=rnd (-n) d:=by omega
  have q4:rnd (-n) d<=4611686018427387905:=by omega
  clear q1 q2;go_enter Tryz.func179,Tryz.ntmps179;go_wp2_with (go_at_call 179; refine (QX _ _ _ (by omega) (by omega) d1 d2).mono ?_; rintro e w' ⟨rfl,rfl⟩);go_ret;exact ⟨rfl,rfl⟩
 ·exact QX n d w (by omega) h1 d1 d2
theorem BZ (a b:Int) (w:World):Calls Tryz.prog 150 #[.int .i64 a,.int .i64 b] w fun e w'=>e=.returned (.int .i64 (Yw a b))/\w'=w:=by
 obtain ⟨m1,m2⟩:=BO (YO a) (YP a) (YO b) (YP b);go_enter Tryz.func150,Tryz.ntmps150;go_wp2_with (first | (go_at_call 109; refine (XI _ _).mono ?_; rintro e w' ⟨rfl,rfl⟩) | (go_at_call 179; refine (BX _ _ _ (by omega) (by omega) (by omega) (by omega)).mono ?_; rintro e w' ⟨rfl,rfl⟩));go_ret;exact ⟨rfl,rfl⟩
theorem VQ (x l m:Int) (w:World):Calls Tryz.prog 115 #[.int .i64 x,.int .i64 l,.int .i64 m] w fun e w'=>e=.returned (.int .i64 (YB x l m))/\w'=w:=by
 by_cases h1:bnd x<bnd l
 ·by_cases h2:bnd m<bnd l
  ·have e:YB x l m=bnd m:=by unfold YB; rw [if_pos h1,if_pos h2]
   rw [e]; clear e
   go_enter Tryz.func115,Tryz.ntmps115;go_wp2_with (go_at_call 109; refine (XI _ _).mono ?_; rintro e w' ⟨rfl,rfl⟩);go_ret;exact ⟨rfl,rfl⟩
  ·have e:YB x l m=bnd l:=by unfold YB; rw [if_pos h1,if_neg h2]
   rw [e]; clear e
   go_enter Tryz.func115,Tryz.ntmps115;go_wp2_with (go_at_call 109; refine (XI _ _).mono ?_; rintro e w' ⟨rfl,rfl⟩);go_ret;exact ⟨rfl,rfl⟩
 ·by_cases h2:bnd m<bnd x
  ·have e:YB x l m=bnd m:=by unfold YB; rw [if_neg h1,if_pos h2]
   rw [e]; clear e
   go_enter Tryz.func115,Tryz.ntmps115;go_wp2_with (go_at_call 109; refine (XI _ _).mono ?_; rintro e w' ⟨rfl,rfl⟩);go_ret;exact ⟨rfl,rfl⟩
  ·have e:YB x l m=bnd x:=by unfold YB; rw [if_neg h1,if_neg h2]
   rw [e]; clear e
   go_enter Tryz.func115,Tryz.ntmps115;go_wp2_with (go_at_call 109; refine (XI _ _).mono ?_; rintro e w' ⟨rfl,rfl⟩);go_ret;exact ⟨rfl,rfl⟩
end Go.Proofs.YthcjckgmdokmdaaGreatDoor
namespace Go.Proofs.YthcjckgmdokmdaaGreatDoor
open Go.RowKit
open Pu Gp
theorem Eb (n:Int):-16<n.tmod 16/\n.tmod 16<16:=by
 rcases Int.le_total 0 n with h | h
 ·rw [Int.tmod_eq_emod_of_nonneg h];omega
 ·have e:n.tmod 16=-((-n) % 16):=by
   rw [<- Int.tmod_eq_emod_of_nonneg (show 0 <= -n by omega),Int.neg_tmod]; omega
  omega
theorem QY (n:Int) (w:World):Calls Tryz.prog 59 #[.int .i64 n] w fun e w'=>e=.returned (.int .i64 (n % 16))/\w'=w:=by
 have e:=BT n;have b1:-16<n.tmod 16/\n.tmod 16<16:=Eb n;obtain ⟨b1,b2⟩:=b1;by_cases h:n.tmod 16<0
 ·rw [if_pos h] at e;rw [<- e];clear e;go_enter Tryz.func59,Tryz.ntmps59;go_wp2
  go_ret;exact ⟨rfl,rfl⟩
 ·rw [if_neg h] at e;rw [<- e];clear e;go_enter Tryz.func59,Tryz.ntmps59;go_wp2
  go_ret;exact ⟨rfl,rfl⟩
end Go.Proofs.YthcjckgmdokmdaaGreatDoor
