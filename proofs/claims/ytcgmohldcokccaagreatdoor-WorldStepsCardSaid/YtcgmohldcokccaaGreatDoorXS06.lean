set_option linter.unusedVariables false
set_option maxRecDepth 100000
namespace Go.Proofs.YtcgmohldcokccaaGreatDoor.Ea
structure Scr where
 p:Int
 h:Int
 o:Int
 k:Int
def zC:Scr:=⟨0,0,0,0⟩
def Ym(s:Scr):Prop:=(-2147483647<=s.p/\s.p<=2147483647)/\(0<=s.h/\s.h<=2147483647)/\(0<=s.o/\s.o<=2147483647)/\(0<=s.k/\s.k<=2147483647)
def E8(s:Scr):Decidable (Ym s):=by unfold Ym;infer_instance
def ZW(s:Scr):Bool:=@decide (Ym s) (E8 s)
theorem mayC_iff{s:Scr}:ZW s=true ↔ Ym s:=@decide_eq_true_iff (Ym s) (E8 s)
theorem JM{s:Scr}(h:¬Ym s):ZW s=false:=by
 cases e:ZW s with
 | false=>rfl
 | true=>exact absurd (mayC_iff.1 e) h
def YX(s:Scr):Int:=if ZW s then 0 else 120
theorem Uc{s:Scr}(h:Ym s):YX s=0:=by unfold YX;rw[mayC_iff.2 h];rfl
theorem UO{s:Scr}(h:¬Ym s):YX s=120:=by unfold YX;rw[JM h];rfl
def bdC(n:Int):Int:=if n > 2147483647 then 2147483647 else if n < -2147483647 then -2147483647 else n
theorem VA(n:Int):-2147483647<=bdC n/\bdC n<=2147483647:=by unfold bdC;split<;>(try split)<;>omega
theorem Qa{n:Int}(h:0<=n):0<=bdC n:=by unfold bdC;split<;>(try split)<;>omega
def JN(s:Scr)(w:Int)(out:Bool):Int:=if out then w+10+(if s.k<5 then s.k else 5)else w
def VB(s:Scr)(w:Int)(out:Bool):Scr:=⟨bdC (s.p+JN s w out),bdC (s.h+1),s.o,if out then bdC (s.k+1)else s.k⟩
def Vc(s:Scr)(out:Bool):Scr:=if out then⟨bdC (s.p-2),s.h,bdC (s.o+1),0⟩else s
def Zq(a b:Scr)(w:Int):Int:=if ZW a && ZW b then(if 1<=w/\w<=3 then 0 else 1)else 120
def YY(a b:Scr)(w:Int)(out:Bool):Scr:=if Zq a b w=0 then VB a w out else zC
def YZ(a b:Scr)(w:Int)(out:Bool):Scr:=if Zq a b w=0 then Vc b out else zC
theorem GN{a b:Scr}{w:Int}(ha:Ym a)(hb:Ym b)(hw:1<=w/\w<=3):Zq a b w=0:=by
 unfold Zq;rw[mayC_iff.2 ha,mayC_iff.2 hb,if_pos hw];rfl
theorem E9{a b:Scr}{w:Int}(ha:Ym a)(hb:Ym b)(hw:¬(1<=w/\w<=3)):Zq a b w=1:=by
 unfold Zq;rw[mayC_iff.2 ha,mayC_iff.2 hb,if_neg hw];rfl
theorem EC{a b:Scr}{w:Int}(h:¬(Ym a/\Ym b)):Zq a b w=120:=by
 unfold Zq;rw[if_neg];intro e;rw[Bool.and_eq_true]at e;exact h ⟨mayC_iff.1 e.1,mayC_iff.1 e.2⟩
theorem LZ{s:Scr}{w:Int}{out:Bool}(hs:Ym s):Ym (VB s w out):=by
 obtain⟨h1,h2,h3,h4⟩:=hs;refine⟨VA _,⟨Qa (by omega),(VA _).2⟩,h3,?_⟩;show 0<=(if out then bdC (s.k+1)else s.k)/\(if out then bdC (s.k+1)else s.k)<=2147483647;split
 ·exact⟨Qa (by omega),(VA _).2⟩
 ·exact h4
theorem Ma{s:Scr}{out:Bool}(hs:Ym s):Ym (Vc s out):=by
 obtain⟨h1,h2,h3,h4⟩:=hs;unfold Vc;split
 ·exact⟨VA _,h2,⟨Qa (by omega),(VA _).2⟩,Int.le_refl 0,(by decide:(0:Int)<=2147483647)⟩
 ·exact⟨h1,h2,h3,h4⟩
def Xh(s:Scr)(n:Int):Int:=if ZW s then(if 0<=n/\n<=100 then 0 else 1)else 120
def Z6(s:Scr)(n:Int):Scr:=if Xh s n=0 then { s with p:=bdC (s.p+n) } else zC
theorem GO{s:Scr}{n:Int}(hs:Ym s)(hn:0<=n/\n<=100):Xh s n=0:=by
 unfold Xh;rw[mayC_iff.2 hs,if_pos hn];rfl
theorem ED{s:Scr}{n:Int}(hs:Ym s)(hn:¬(0<=n/\n<=100)):Xh s n=1:=by
 unfold Xh;rw[mayC_iff.2 hs,if_neg hn];rfl
theorem EE{s:Scr}{n:Int}(hs:¬Ym s):Xh s n=120:=by
 unfold Xh;rw[JM hs];rfl
theorem Mc{s:Scr}{n:Int}(hs:Ym s):Ym { s with p:=bdC (s.p+n) }:=⟨VA _,hs.2⟩
def sc(L:List Scr)(i:Nat):Scr:=L.getD i zC
end Go.Proofs.YtcgmohldcokccaaGreatDoor.Ea
