set_option linter.unusedVariables false
set_option maxRecDepth 100000
namespace Go.Proofs.YtcgmohldcokccaaGreatDoor.Ea
structure Scr where
 p:Int
 h:Int
 o:Int
 k:Int
def zC:Scr:=⟨0,0,0,0⟩
def Ym(s:Scr):Prop:=(-2147483647<=s.p/\s.p<=2147483647)/\(0<=s.h/\s.h<=2147483647)/\(0<=s.o/\s.o<=2147483647)/\(0<=s.k/\s.k<=2147483647)
def E6(s:Scr):Decidable (Ym s):=by unfold Ym;infer_instance
def ZY(s:Scr):Bool:=@decide (Ym s) (E6 s)
theorem mayC_iff{s:Scr}:ZY s=true ↔ Ym s:=@decide_eq_true_iff (Ym s) (E6 s)
theorem JF{s:Scr}(h:¬Ym s):ZY s=false:=by
 cases e:ZY s with
 | false=>rfl
 | true=>exact absurd (mayC_iff.1 e) h
def YY(s:Scr):Int:=if ZY s then 0 else 120
theorem Ub{s:Scr}(h:Ym s):YY s=0:=by unfold YY;rw[mayC_iff.2 h];rfl
theorem UM{s:Scr}(h:¬Ym s):YY s=120:=by unfold YY;rw[JF h];rfl
def bdC(n:Int):Int:=if n > 2147483647 then 2147483647 else if n < -2147483647 then -2147483647 else n
theorem V9(n:Int):-2147483647<=bdC n/\bdC n<=2147483647:=by unfold bdC;split<;>(try split)<;>omega
theorem KP{n:Int}(h:0<=n):0<=bdC n:=by unfold bdC;split<;>(try split)<;>omega
def JG(s:Scr)(w:Int)(out:Bool):Int:=if out then w+10+(if s.k<5 then s.k else 5)else w
def VA(s:Scr)(w:Int)(out:Bool):Scr:=⟨bdC (s.p+JG s w out),bdC (s.h+1),s.o,if out then bdC (s.k+1)else s.k⟩
def Vd(s:Scr)(out:Bool):Scr:=if out then⟨bdC (s.p - 2),s.h,bdC (s.o+1),0⟩else s
def Zr(a b:Scr)(w:Int):Int:=if ZY a && ZY b then(if 1<=w/\w<=3 then 0 else 1)else 120
def YZ(a b:Scr)(w:Int)(out:Bool):Scr:=if Zr a b w=0 then VA a w out else zC
def Zb(a b:Scr)(w:Int)(out:Bool):Scr:=if Zr a b w=0 then Vd b out else zC
theorem GH{a b:Scr}{w:Int}(ha:Ym a)(hb:Ym b)(hw:1<=w/\w<=3):Zr a b w=0:=by
 unfold Zr;rw[mayC_iff.2 ha,mayC_iff.2 hb,if_pos hw];rfl
theorem E7{a b:Scr}{w:Int}(ha:Ym a)(hb:Ym b)(hw:¬(1<=w/\w<=3)):Zr a b w=1:=by
 unfold Zr;rw[mayC_iff.2 ha,mayC_iff.2 hb,if_neg hw];rfl
theorem E8{a b:Scr}{w:Int}(h:¬(Ym a/\Ym b)):Zr a b w=120:=by
 unfold Zr;rw[if_neg];intro e;rw[Bool.and_eq_true]at e;exact h ⟨mayC_iff.1 e.1,mayC_iff.1 e.2⟩
theorem LW{s:Scr}{w:Int}{out:Bool}(hs:Ym s):Ym (VA s w out):=by
 obtain⟨h1,h2,h3,h4⟩:=hs;refine⟨V9 _,⟨KP (by omega),(V9 _).2⟩,h3,?_⟩;show 0<=(if out then bdC (s.k+1)else s.k)/\(if out then bdC (s.k+1)else s.k)<=2147483647;split
 ·exact⟨KP (by omega),(V9 _).2⟩
 ·exact h4
theorem LX{s:Scr}{out:Bool}(hs:Ym s):Ym (Vd s out):=by
 obtain⟨h1,h2,h3,h4⟩:=hs;unfold Vd;split
 ·exact⟨V9 _,h2,⟨KP (by omega),(V9 _).2⟩,Int.le_refl 0,(by decide:(0:Int)<=2147483647)⟩
 ·exact⟨h1,h2,h3,h4⟩
def Xj(s:Scr)(n:Int):Int:=if ZY s then(if 0<=n/\n<=100 then 0 else 1)else 120
def Z6(s:Scr)(n:Int):Scr:=if Xj s n=0 then { s with p:=bdC (s.p+n) } else zC
theorem GI{s:Scr}{n:Int}(hs:Ym s)(hn:0<=n/\n<=100):Xj s n=0:=by
 unfold Xj;rw[mayC_iff.2 hs,if_pos hn];rfl
theorem E9{s:Scr}{n:Int}(hs:Ym s)(hn:¬(0<=n/\n<=100)):Xj s n=1:=by
 unfold Xj;rw[mayC_iff.2 hs,if_neg hn];rfl
theorem EC{s:Scr}{n:Int}(hs:¬Ym s):Xj s n=120:=by
 unfold Xj;rw[JF hs];rfl
theorem LY{s:Scr}{n:Int}(hs:Ym s):Ym { s with p:=bdC (s.p+n) }:=⟨V9 _,hs.2⟩
def sc(L:List Scr)(i:Nat):Scr:=L.getD i zC
end Go.Proofs.YtcgmohldcokccaaGreatDoor.Ea
