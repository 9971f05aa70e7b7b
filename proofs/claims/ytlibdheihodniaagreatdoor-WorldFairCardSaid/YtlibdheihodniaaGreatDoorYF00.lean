/- Parts of the proof, laid end to end. -/
import Derived.Test.YtlibdheihodniaaGreatDoorProg
import Derived.WalkKit
import Derived.WalkLawsBesides
import Derived.Lib.Hide
import Derived.Laws.BitsLemmas
set_option maxRecDepth 100000
namespace Go.Proofs.YtlibdheihodniaaGreatDoor.Pu
def bnd (n:Int):Int:=if n < -2147483647 then -2147483647 else if 2147483647<n then 2147483647 else n
theorem bnd_lo (n:Int):-2147483647<=bnd n:=by
 unfold bnd; repeat' split
 all_goals omega
theorem bnd_hi (n:Int):bnd n<=2147483647:=by
 unfold bnd; repeat' split
 all_goals omega
theorem bnd_id {n:Int} (h:-2147483647<=n) (h2:n<=2147483647):bnd n=n:=by unfold bnd; rw [if_neg (by omega),if_neg (by omega)]
theorem bnd_above {n:Int} (h:2147483647<=n):bnd n=2147483647:=by
 unfold bnd; repeat' split
 all_goals omega
theorem bnd_below {n:Int} (h:n <= -2147483647):bnd n=-2147483647:=by
 unfold bnd; repeat' split
 all_goals omega
theorem bnd_mono {a b:Int} (h:a<=b):bnd a<=bnd b:=by
 unfold bnd; repeat' split
 all_goals omega
def rnd (n d:Int):Int:=if n<0 then -((-n+d / 2) / d) else (n+d / 2) / d
theorem rnd_nn {n d:Int} (h:0<=n):rnd n d=(n+d / 2) / d:=by unfold rnd; rw [if_neg (by omega)]
theorem rnd_neg (n d:Int) (hd:1<=d):rnd (-n) d=-rnd n d:=by
 unfold rnd
 by_cases h:n<0
 ·rw [if_neg (by omega),if_pos h]; omega
 ·by_cases h0:n=0
  ·subst h0
   have:(d / 2) / d=0:=Int.ediv_eq_zero_of_lt (by omega) (by omega)
   simp [this]
  ·rw [if_pos (by omega),if_neg h]; simp
theorem rnd_below {n d:Int} (h:n<0):rnd n d=-((-n+d / 2) / d):=by unfold rnd; rw [if_pos h]
theorem mul_bd {a b:Int} (ha:-2147483647<=a) (ha2:a<=2147483647) (hb:-2147483647<=b) (hb2:b<=2147483647) :
  -4611686014132420609<=a*b/\a*b<=4611686014132420609:=by
 have e:(4611686014132420609:Int)=2147483647*2147483647:=by decide
 have h:(a*b).natAbs<=2147483647*2147483647:=by
  rw [Int.natAbs_mul]; exact Nat.mul_le_mul (by omega) (by omega)
 omega
theorem quo_bd {n d:Int} (hn:0<=n) (hd:1<=d):0<=(n+d / 2) / d/\(n+d / 2) / d<=n+1:=by
 refine ⟨Int.ediv_nonneg (by omega) (by omega), ?_⟩
 have h1:(n+d / 2) / d<=(n+d / 2) / d*d+0:=by
  have h0:0<=(n+d / 2) / d:=Int.ediv_nonneg (by omega) (by omega)
  have:=Int.mul_le_mul_of_nonneg_left hd h0
  omega
 by_cases hc:n=0
 ·subst hc
  have:(0+d / 2) / d=0:=Int.ediv_eq_zero_of_lt (by omega) (by omega)
  omega
 have h2:(n+d / 2) / d<n+1+1:=by
  apply Int.ediv_lt_of_lt_mul (by omega)
  have:(n+1+1)*d=n*d+d+d:=by rw [Int.add_mul,Int.add_mul]; omega
  have h3:n*1<=n*d:=Int.mul_le_mul_of_nonneg_left hd hn
  omega
 omega
theorem rnd_bd {n d:Int} (hd:1<=d):-(n.natAbs:Int) - 1<=rnd n d/\rnd n d<=(n.natAbs:Int)+1:=by
 by_cases h:n<0
 ·rw [rnd_below h]; have:=@quo_bd (-n) d (by omega) hd; omega
 ·rw [rnd_nn (by omega)]; have:=@quo_bd n d (by omega) hd; omega
def addf (a b:Int):Int:=bnd (bnd a+bnd b)
def subf (a b:Int):Int:=bnd (bnd a - bnd b)
def mulf (a b:Int):Int:=bnd (rnd (bnd a*bnd b) 256)
def off (x:Int):Int:=bnd (bnd x*256)
def clampf (x l m:Int):Int:=if bnd m<(if bnd x<bnd l then bnd l else bnd x) then bnd m else (if bnd x<bnd l then bnd l else bnd x)
def isqF:Nat->Int->Int->Int
 | 0,r,_=>r
 | k+1,r,N=>if (r+2 ^ k)*(r+2 ^ k)<=N then isqF k (r+2 ^ k) N else isqF k r N
/-! ### What the laws ask -/
end Go.Proofs.YtlibdheihodniaaGreatDoor.Pu
namespace Go.Proofs.YtlibdheihodniaaGreatDoor.Gp
open Pu
/-! ### Lengths -/
def sq2 (x y:Int):Int:=x*x+y*y
def isqL (n:Int):Int:=isqF 32 0 n
def far (x y:Int):Int:=isqL (sq2 x y)
/-! ### Caps -/
def part (x m k:Int):Int:=(x*m).tdiv k
/-! ### Directions -/
def unitX:List Int:=[256,237,181,98,0,-98,-181,-237,-256,-237,-181,-98,0,98,181,237]
def unitY:List Int:=[0,98,181,237,256,237,181,98,0,-98,-181,-237,-256,-237,-181,-98]
def ux (d:Nat):Int:=unitX.getD d 0
def uy (d:Nat):Int:=unitY.getD d 0
def dot (x y:Int) (d:Nat):Int:=x*ux d+y*uy d
/-! ### Boxes: the four numbers -/
def okB (ax ay bx byy:Int):Prop:=-2147483647<=ax/\ax<=2147483647/\-2147483647<=ay/\ay<=2147483647/\-2147483647<=bx/\bx<=2147483647/\-2147483647<=byy/\byy<=2147483647/\ax<=bx/\ay<=byy
end Go.Proofs.YtlibdheihodniaaGreatDoor.Gp
namespace Go.Proofs.YtlibdheihodniaaGreatDoor
open Go.RowKit
open Pu
theorem ret_int {k:IntKind} {a b:Int} (h:a=b):Ending.returned (.int k a)=.returned (.int k b):=by rw [h]
theorem bound_any (n:Int) (w:World):Calls Tryz.prog 88 #[.int .i64 n] w fun e w'=>e=.returned (.int .i64 (bnd n))/\w'=w:=by
 have h3:n < -2147483647\/(-2147483647<=n/\n<=2147483647)\/2147483647<n:=by omega
 rcases h3 with h | ⟨h,h'⟩ | h
 ·have e:bnd n=-2147483647:=bnd_below (by omega)
  rw [e]; clear e
  go_enter Tryz.func88,Tryz.ntmps88
  go_wp2
  go_ret
  exact ⟨rfl,rfl⟩
 ·have e:bnd n=n:=bnd_id h h'
  rw [e]; clear e
  go_enter Tryz.func88,Tryz.ntmps88
  go_wp2
  go_ret
  exact ⟨rfl,rfl⟩
 ·have e:bnd n=2147483647:=bnd_above (by omega)
  rw [e]; clear e
  go_enter Tryz.func88,Tryz.ntmps88
  go_wp2
  go_ret
  exact ⟨rfl,rfl⟩
theorem add_any (a b:Int) (w:World):Calls Tryz.prog 219 #[.int .i64 a,.int .i64 b] w fun e w'=>e=.returned (.int .i64 (addf a b))/\w'=w:=by
 have a1:=bnd_lo a
 have a2:=bnd_hi a
 have b1:=bnd_lo b
 have b2:=bnd_hi b
 go_enter Tryz.func219,Tryz.ntmps219
 go_wp2_with (go_at_call 88; refine (bound_any _ _).mono ?_; rintro e w' ⟨rfl,rfl⟩)
 go_ret
 exact ⟨rfl,rfl⟩
theorem sub_any (a b:Int) (w:World):Calls Tryz.prog 232 #[.int .i64 a,.int .i64 b] w fun e w'=>e=.returned (.int .i64 (subf a b))/\w'=w:=by
 have a1:=bnd_lo a
 have a2:=bnd_hi a
 have b1:=bnd_lo b
 have b2:=bnd_hi b
 go_enter Tryz.func232,Tryz.ntmps232
 go_wp2_with (go_at_call 88; refine (bound_any _ _).mono ?_; rintro e w' ⟨rfl,rfl⟩)
 go_ret
 exact ⟨rfl,rfl⟩
theorem rounded_nn (n d:Int) (w:World) (h0:0<=n) (h1:n<=4611686018427387904) (d1:1<=d) (d2:d<=4611686018427387904) :
  Calls Tryz.prog 237 #[.int .i64 n,.int .i64 d] w fun e w'=>e=.returned (.int .i64 (rnd n d))/\w'=w:=by
 have q:=@quo_bd n d h0 d1
 obtain ⟨q1,q2⟩:=q
 have e:rnd n d=(n+d / 2) / d:=rnd_nn h0
 rw [e]; clear e
 go_enter Tryz.func237,Tryz.ntmps237
 go_wp2_with fail
 go_ret
 exact ⟨rfl,rfl⟩
theorem rounded_any (n d:Int) (w:World) (h0:-4611686018427387904<=n) (h1:n<=4611686018427387904) (d1:1<=d) (d2:d<=4611686018427387904) :
  Calls Tryz.prog 237 #[.int .i64 n,.int .i64 d] w fun e w'=>e=.returned (.int .i64 (rnd n d))/\w'=w:=by
 by_cases hn:n<0
 ·have q:=@rnd_bd (-n) d d1
  obtain ⟨q1,q2⟩:=q
  have e:rnd n d=-rnd (-n) d:=by rw [rnd_neg _ _ d1]; omega
  rw [e]; clear e
  have q3:-4611686018427387905<=rnd (-n) d:=by omega
  have q4:rnd (-n) d<=4611686018427387905:=by omega
  clear q1 q2
  go_enter Tryz.func237,Tryz.ntmps237
  go_wp2_with (go_at_call 237; refine (rounded_nn _ _ _ (by omega) (by omega) d1 d2).mono ?_; rintro e w' ⟨rfl,rfl⟩)
  go_ret
  exact ⟨rfl,rfl⟩
 ·exact rounded_nn n d w (by omega) h1 d1 d2
theorem mul_any (a b:Int) (w:World):Calls Tryz.prog 220 #[.int .i64 a,.int .i64 b] w fun e w'=>e=.returned (.int .i64 (mulf a b))/\w'=w:=by
 obtain ⟨m1,m2⟩:=mul_bd (bnd_lo a) (bnd_hi a) (bnd_lo b) (bnd_hi b)
 go_enter Tryz.func220,Tryz.ntmps220
 go_wp2_with (first | (go_at_call 88; refine (bound_any _ _).mono ?_; rintro e w' ⟨rfl,rfl⟩) | (go_at_call 237; refine (rounded_any _ _ _ (by omega) (by omega) (by omega) (by omega)).mono ?_; rintro e w' ⟨rfl,rfl⟩))
 go_ret
 exact ⟨rfl,rfl⟩
theorem clamp_any (x l m:Int) (w:World):Calls Tryz.prog 231 #[.int .i64 x,.int .i64 l,.int .i64 m] w fun e w'=>e=.returned (.int .i64 (clampf x l m))/\w'=w:=by
 by_cases h1:bnd x<bnd l
 ·by_cases h2:bnd m<bnd l
  ·have e:clampf x l m=bnd m:=by unfold clampf; rw [if_pos h1,if_pos h2]
   rw [e]; clear e
   go_enter Tryz.func231,Tryz.ntmps231
   go_wp2_with (go_at_call 88; refine (bound_any _ _).mono ?_; rintro e w' ⟨rfl,rfl⟩)
   go_ret
   exact ⟨rfl,rfl⟩
  ·have e:clampf x l m=bnd l:=by unfold clampf; rw [if_pos h1,if_neg h2]
   rw [e]; clear e
   go_enter Tryz.func231,Tryz.ntmps231
   go_wp2_with (go_at_call 88; refine (bound_any _ _).mono ?_; rintro e w' ⟨rfl,rfl⟩)
   go_ret
   exact ⟨rfl,rfl⟩
 ·by_cases h2:bnd m<bnd x
  ·have e:clampf x l m=bnd m:=by unfold clampf; rw [if_neg h1,if_pos h2]
   rw [e]; clear e
   go_enter Tryz.func231,Tryz.ntmps231
   go_wp2_with (go_at_call 88; refine (bound_any _ _).mono ?_; rintro e w' ⟨rfl,rfl⟩)
   go_ret
   exact ⟨rfl,rfl⟩
  ·have e:clampf x l m=bnd x:=by unfold clampf; rw [if_neg h1,if_neg h2]
   rw [e]; clear e
   go_enter Tryz.func231,Tryz.ntmps231
   go_wp2_with (go_at_call 88; refine (bound_any _ _).mono ?_; rintro e w' ⟨rfl,rfl⟩)
   go_ret
   exact ⟨rfl,rfl⟩
end Go.Proofs.YtlibdheihodniaaGreatDoor
namespace Go.Proofs.YtlibdheihodniaaGreatDoor
open Go.RowKit
open Pu Gp
theorem and15 (n:Int):bits .and .i64 n 15=n % 16:=by
 have h15:(BitVec.ofInt 64 15).toNat=2 ^ 4 - 1:=by decide
 have key:(BitVec.ofInt 64 n &&& BitVec.ofInt 64 15).toNat=(n % ((2 ^ 64:Nat):Int)).toNat % 2 ^ 4:=by
  rw [BitVec.toNat_and,BitVec.toNat_ofInt,h15,Nat.and_two_pow_sub_one_eq_mod]
 show IntKind.i64.wrap ((BitVec.ofInt 64 n &&& BitVec.ofInt 64 15).toNat:Nat)=n % 16
 rw [key,IntKind.wrap_i64]
 omega
theorem counted_any (n:Int) (w:World):Calls Tryz.prog 89 #[.int .i64 n] w fun e w'=>e=.returned (.int .i64 (n % 16))/\w'=w:=by
 rw [<- and15 n]
 go_enter Tryz.func89,Tryz.ntmps89
 go_wp2
 go_ret
 exact ⟨rfl,rfl⟩
theorem turn_any (d b:Int) (w:World):Calls Tryz.prog 48 #[.int .i64 d,.int .i64 b] w fun e w'=>e=.returned (.int .i64 ((d+b) % 16))/\w'=w:=by
 have l1:0<=d % 16:=by omega
 have l2:d % 16<16:=by omega
 have l3:0<=b % 16:=by omega
 have l4:b % 16<16:=by omega
 go_enter Tryz.func48,Tryz.ntmps48
 go_wp2_with (go_at_call 89; refine (counted_any _ _).mono ?_; rintro e w' ⟨rfl,rfl⟩)
 go_ret
 exact ⟨rfl,rfl⟩
theorem size_any (n:Int) (w:World):Calls Tryz.prog 205 #[.int .i64 n] w fun e w'=>e=.returned (.int .i64 (clampf n 0 2147483647))/\w'=w:=by
 go_enter Tryz.func205,Tryz.ntmps205
 go_wp2_with (go_at_call 231; refine (clamp_any _ _ _ _).mono ?_; rintro e w' ⟨rfl,rfl⟩)
 go_ret
 exact ⟨rfl,rfl⟩
end Go.Proofs.YtlibdheihodniaaGreatDoor
