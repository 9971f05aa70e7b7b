set_option linter.unusedVariables false
set_option maxRecDepth 100000
namespace Go.Proofs.YtcgmohldcokccaaGreatDoor.Ea
structure Scr where
 p:Int
 h:Int
 o:Int
 k:Int
def zC:Scr:=⟨0,0,0,0⟩
def Ym(s:Scr):Prop:=(-2147483647<=s.p/\s.p<=2147483647)/\(0<=s.h/\s.h<=2147483647)/\(0<=s.o/\s.o<=2147483647)/\(0<=s.k/\s.k<=2147483647)
def EJ(s:Scr):Decidable (Ym s):=by unfold Ym;infer_instance
def ZY(s:Scr):Bool:=@decide (Ym s) (EJ s)
theorem mayC_iff{s:Scr}:ZY s=true ↔ Ym s:=@decide_eq_true_iff (Ym s) (EJ s)
theorem JK{s:Scr}(h:¬Ym s):ZY s=false:=by
 cases e:ZY s with
 | false=>rfl
 | true=>exact absurd (mayC_iff.1 e) h
def YZ(s:Scr):Int:=if ZY s then 0 else 120
theorem Ue{s:Scr}(h:Ym s):YZ s=0:=by unfold YZ;rw[mayC_iff.2 h];rfl
theorem UR{s:Scr}(h:¬Ym s):YZ s=120:=by unfold YZ;rw[JK h];rfl
def bdC(n:Int):Int:=if n > 2147483647 then 2147483647 else if n < -2147483647 then -2147483647 else n
theorem VB(n:Int):-2147483647<=bdC n/\bdC n<=2147483647:=by unfold bdC;split<;>(try split)<;>omega
theorem Qa{n:Int}(h:0<=n):0<=bdC n:=by unfold bdC;split<;>(try split)<;>omega
def JL(s:Scr)(w:Int)(out:Bool):Int:=if out then w+10+(if s.k<5 then s.k else 5)else w
def VC(s:Scr)(w:Int)(out:Bool):Scr:=⟨bdC (s.p+JL s w out),bdC (s.h+1),s.o,if out then bdC (s.k+1)else s.k⟩
def Vg(s:Scr)(out:Bool):Scr:=if out then⟨bdC (s.p-2),s.h,bdC (s.o+1),0⟩else s
def Zr(a b:Scr)(w:Int):Int:=if ZY a && ZY b then(if 1<=w/\w<=3 then 0 else 1)else 120
def Zb(a b:Scr)(w:Int)(out:Bool):Scr:=if Zr a b w=0 then VC a w out else zC
def Zc(a b:Scr)(w:Int)(out:Bool):Scr:=if Zr a b w=0 then Vg b out else zC
theorem GX{a b:Scr}{w:Int}(ha:Ym a)(hb:Ym b)(hw:1<=w/\w<=3):Zr a b w=0:=by
 unfold Zr;rw[mayC_iff.2 ha,mayC_iff.2 hb,if_pos hw];rfl
theorem EO{a b:Scr}{w:Int}(ha:Ym a)(hb:Ym b)(hw:¬(1<=w/\w<=3)):Zr a b w=1:=by
 unfold Zr;rw[mayC_iff.2 ha,mayC_iff.2 hb,if_neg hw];rfl
theorem EP{a b:Scr}{w:Int}(h:¬(Ym a/\Ym b)):Zr a b w=120:=by
 unfold Zr;rw[if_neg];intro e;rw[Bool.and_eq_true]at e;exact h ⟨mayC_iff.1 e.1,mayC_iff.1 e.2⟩
theorem Mq{s:Scr}{w:Int}{out:Bool}(hs:Ym s):Ym (VC s w out):=by
 obtain⟨h1,h2,h3,h4⟩:=hs;refine⟨VB _,⟨Qa (by omega),(VB _).2⟩,h3,?_⟩;show 0<=(if out then bdC (s.k+1)else s.k)/\(if out then bdC (s.k+1)else s.k)<=2147483647;split
 ·exact⟨Qa (by omega),(VB _).2⟩
 ·exact h4
theorem Mr{s:Scr}{out:Bool}(hs:Ym s):Ym (Vg s out):=by
 obtain⟨h1,h2,h3,h4⟩:=hs;unfold Vg;split
 ·exact⟨VB _,h2,⟨Qa (by omega),(VB _).2⟩,Int.le_refl 0,(by decide:(0:Int)<=2147483647)⟩
 ·exact⟨h1,h2,h3,h4⟩
def Xl(s:Scr)(n:Int):Int:=if ZY s then(if 0<=n/\n<=100 then 0 else 1)else 120
def Z8(s:Scr)(n:Int):Scr:=if Xl s n=0 then { s with p:=bdC (s.p+n) } else zC
theorem GY{s:Scr}{n:Int}(hs:Ym s)(hn:0<=n/\n<=100):Xl s n=0:=by
 unfold Xl;rw[mayC_iff.2 hs,if_pos hn];rfl
theorem ER{s:Scr}{n:Int}(hs:Ym s)(hn:¬(0<=n/\n<=100)):Xl s n=1:=by
 unfold Xl;rw[mayC_iff.2 hs,if_neg hn];rfl
theorem ET{s:Scr}{n:Int}(hs:¬Ym s):Xl s n=120:=by
 unfold Xl;rw[JK hs];rfl
theorem Ms{s:Scr}{n:Int}(hs:Ym s):Ym { s with p:=bdC (s.p+n) }:=⟨VB _,hs.2⟩
def sc(L:List Scr)(i:Nat):Scr:=L.getD i zC
end Go.Proofs.YtcgmohldcokccaaGreatDoor.Ea
