set_option linter.unusedVariables false
set_option maxRecDepth 100000
namespace Go.Proofs.YtcgmohldcokccaaGreatDoor.Ea
structure Scr where
 p:Int
 h:Int
 o:Int
 k:Int
def zC:Scr:=⟨0,0,0,0⟩
def Ym(s:Scr):Prop:=(-2147483647<=s.p/\s.p<=2147483647)/\(0<=s.h/\s.h<=2147483647)/\(0<=s.o/\s.o<=2147483647)/\(0<=s.k/\s.k<=2147483647)
def Ni(s:Scr):Decidable (Ym s):=by unfold Ym;infer_instance
def Xe(s:Scr):Bool:=@decide (Ym s) (Ni s)
theorem mayC_iff{s:Scr}:Xe s=true ↔ Ym s:=@decide_eq_true_iff (Ym s) (Ni s)
theorem JQ{s:Scr}(h:¬Ym s):Xe s=false:=by
 cases e:Xe s with
 | false=>rfl
 | true=>exact absurd (mayC_iff.1 e) h
def YZ(s:Scr):Int:=if Xe s then 0 else 120
theorem Uj{s:Scr}(h:Ym s):YZ s=0:=by unfold YZ;rw[mayC_iff.2 h];rfl
theorem UV{s:Scr}(h:¬Ym s):YZ s=120:=by unfold YZ;rw[JQ h];rfl
def bdC(n:Int):Int:=if n > 2147483647 then 2147483647 else if n < -2147483647 then -2147483647 else n
theorem VG(n:Int):-2147483647<=bdC n/\bdC n<=2147483647:=by unfold bdC;split<;>(try split)<;>omega
theorem Qj{n:Int}(h:0<=n):0<=bdC n:=by unfold bdC;split<;>(try split)<;>omega
def JR(s:Scr)(w:Int)(out:Bool):Int:=if out then w+10+(if s.k<5 then s.k else 5)else w
def VH(s:Scr)(w:Int)(out:Bool):Scr:=⟨bdC (s.p+JR s w out),bdC (s.h+1),s.o,if out then bdC (s.k+1)else s.k⟩
def Vk(s:Scr)(out:Bool):Scr:=if out then⟨bdC (s.p-2),s.h,bdC (s.o+1),0⟩else s
def Zt(a b:Scr)(w:Int):Int:=if Xe a && Xe b then(if 1<=w/\w<=3 then 0 else 1)else 120
def Zb(a b:Scr)(w:Int)(out:Bool):Scr:=if Zt a b w=0 then VH a w out else zC
def Zc(a b:Scr)(w:Int)(out:Bool):Scr:=if Zt a b w=0 then Vk b out else zC
theorem Dh{a b:Scr}{w:Int}(ha:Ym a)(hb:Ym b)(hw:1<=w/\w<=3):Zt a b w=0:=by
 unfold Zt;rw[mayC_iff.2 ha,mayC_iff.2 hb,if_pos hw];rfl
theorem Nj{a b:Scr}{w:Int}(ha:Ym a)(hb:Ym b)(hw:¬(1<=w/\w<=3)):Zt a b w=1:=by
 unfold Zt;rw[mayC_iff.2 ha,mayC_iff.2 hb,if_neg hw];rfl
theorem Nk{a b:Scr}{w:Int}(h:¬(Ym a/\Ym b)):Zt a b w=120:=by
 unfold Zt;rw[if_neg];intro e;rw[Bool.and_eq_true]at e;exact h ⟨mayC_iff.1 e.1,mayC_iff.1 e.2⟩
theorem M7{s:Scr}{w:Int}{out:Bool}(hs:Ym s):Ym (VH s w out):=by
 obtain⟨h1,h2,h3,h4⟩:=hs;refine⟨VG _,⟨Qj (by omega),(VG _).2⟩,h3,?_⟩;show 0<=(if out then bdC (s.k+1)else s.k)/\(if out then bdC (s.k+1)else s.k)<=2147483647;split
 ·exact⟨Qj (by omega),(VG _).2⟩
 ·exact h4
theorem M8{s:Scr}{out:Bool}(hs:Ym s):Ym (Vk s out):=by
 obtain⟨h1,h2,h3,h4⟩:=hs;unfold Vk;split
 ·exact⟨VG _,h2,⟨Qj (by omega),(VG _).2⟩,Int.le_refl 0,(by decide:(0:Int)<=2147483647)⟩
 ·exact⟨h1,h2,h3,h4⟩
def Xp(s:Scr)(n:Int):Int:=if Xe s then(if 0<=n/\n<=100 then 0 else 1)else 120
def ZB(s:Scr)(n:Int):Scr:=if Xp s n=0 then { s with p:=bdC (s.p+n) } else zC
theorem Di{s:Scr}{n:Int}(hs:Ym s)(hn:0<=n/\n<=100):Xp s n=0:=by
 unfold Xp;rw[mayC_iff.2 hs,if_pos hn];rfl
theorem Nl{s:Scr}{n:Int}(hs:Ym s)(hn:¬(0<=n/\n<=100)):Xp s n=1:=by
 unfold Xp;rw[mayC_iff.2 hs,if_neg hn];rfl
theorem Nm{s:Scr}{n:Int}(hs:¬Ym s):Xp s n=120:=by
 unfold Xp;rw[JQ hs];rfl
theorem M9{s:Scr}{n:Int}(hs:Ym s):Ym { s with p:=bdC (s.p+n) }:=⟨VG _,hs.2⟩
def sc(L:List Scr)(i:Nat):Scr:=L.getD i zC
end Go.Proofs.YtcgmohldcokccaaGreatDoor.Ea
