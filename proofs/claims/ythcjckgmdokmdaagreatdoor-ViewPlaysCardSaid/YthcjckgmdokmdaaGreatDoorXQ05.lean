set_option maxRecDepth 100000
namespace Go.Proofs.YthcjckgmdokmdaaGreatDoor.Ea
structure Scr where
 p:Int
 h:Int
 o:Int
 k:Int
def zC:Scr:=⟨0,0,0,0⟩
def Yt (s:Scr):Prop:=(-2147483647<=s.p/\s.p<=2147483647)/\(0<=s.h/\s.h<=2147483647)/\(0<=s.o/\s.o<=2147483647)/\(0<=s.k/\s.k<=2147483647)
def Dz (s:Scr):Decidable (Yt s):=by unfold Yt; infer_instance
def Xn (s:Scr):Bool:=@decide (Yt s) (Dz s)
theorem mayC_iff {s:Scr}:Xn s=true ↔ Yt s:=@decide_eq_true_iff (Yt s) (Dz s)
theorem D0 {s:Scr} (h:¬ Yt s):Xn s=false:=by
 cases e:Xn s with
 | false=>rfl
 | true=>exact absurd (mayC_iff.1 e) h
def Y8 (s:Scr):Int:=if Xn s then 0 else 120
theorem Xo {s:Scr} (h:Yt s):Y8 s=0:=by unfold Y8; rw [mayC_iff.2 h]; rfl
theorem Xf {s:Scr} (h:¬ Yt s):Y8 s=120:=by unfold Y8; rw [D0 h]; rfl
def bdC (n:Int):Int:=if n > 2147483647 then 2147483647 else if n < -2147483647 then -2147483647 else n
theorem U5 (n:Int):-2147483647<=bdC n/\bdC n<=2147483647:=by unfold bdC; split <;> (try split) <;> omega
theorem Qb {n:Int} (h:0<=n):0<=bdC n:=by unfold bdC; split <;> (try split) <;> omega
def Tf (s:Scr) (w:Int) (out:Bool):Int:=if out then w+10+(if s.k<5 then s.k else 5) else w
def Qc (s:Scr) (w:Int) (out:Bool):Scr:=⟨bdC (s.p+Tf s w out),bdC (s.h+1),s.o,if out then bdC (s.k+1) else s.k⟩
def JL (s:Scr) (out:Bool):Scr:=if out then ⟨bdC (s.p - 2),s.h,bdC (s.o+1),0⟩ else s
def XE (a b:Scr) (w:Int):Int:=if Xn a && Xn b then (if 1<=w/\w<=3 then 0 else 1) else 120
def Xg (a b:Scr) (w:Int) (out:Bool):Scr:=if XE a b w=0 then Qc a w out else zC
def Xh (a b:Scr) (w:Int) (out:Bool):Scr:=if XE a b w=0 then JL b out else zC
theorem D1 {a b:Scr} {w:Int} (ha:Yt a) (hb:Yt b) (hw:1<=w/\w<=3):XE a b w=0:=by
 unfold XE; rw [mayC_iff.2 ha,mayC_iff.2 hb,if_pos hw]; rfl
theorem Tg {a b:Scr} {w:Int} (ha:Yt a) (hb:Yt b) (hw:¬ (1<=w/\w<=3)):XE a b w=1:=by
 unfold XE; rw [mayC_iff.2 ha,mayC_iff.2 hb,if_neg hw]; rfl
theorem Th {a b:Scr} {w:Int} (h:¬ (Yt a/\Yt b)):XE a b w=120:=by
 unfold XE;rw [if_neg];intro e;rw [Bool.and_eq_true] at e;exact h ⟨mayC_iff.1 e.1,mayC_iff.1 e.2⟩
theorem Ti {s:Scr} {w:Int} {out:Bool} (hs:Yt s):Yt (Qc s w out):=by
 obtain ⟨h1,h2,h3,h4⟩:=hs;refine ⟨U5 _,⟨Qb (by omega),(U5 _).2⟩,h3, ?_⟩;show 0<=(if out then bdC (s.k+1) else s.k)/\(if out then bdC (s.k+1) else s.k)<=2147483647;split
 ·exact ⟨Qb (by omega),(U5 _).2⟩
 ·exact h4
theorem Tj {s:Scr} {out:Bool} (hs:Yt s):Yt (JL s out):=by
 obtain ⟨h1,h2,h3,h4⟩:=hs;unfold JL;split
 ·exact ⟨U5 _,h2,⟨Qb (by omega),(U5 _).2⟩,Int.le_refl 0,(by decide:(0:Int)<=2147483647)⟩
 ·exact ⟨h1,h2,h3,h4⟩
def XT (s:Scr) (n:Int):Int:=if Xn s then (if 0<=n/\n<=100 then 0 else 1) else 120
def Xi (s:Scr) (n:Int):Scr:=if XT s n=0 then { s with p:=bdC (s.p+n) } else zC
theorem Qd {s:Scr} {n:Int} (hs:Yt s) (hn:0<=n/\n<=100):XT s n=0:=by
 unfold XT; rw [mayC_iff.2 hs,if_pos hn]; rfl
theorem D2 {s:Scr} {n:Int} (hs:Yt s) (hn:¬ (0<=n/\n<=100)):XT s n=1:=by
 unfold XT; rw [mayC_iff.2 hs,if_neg hn]; rfl
theorem D3 {s:Scr} {n:Int} (hs:¬ Yt s):XT s n=120:=by
 unfold XT; rw [D0 hs]; rfl
theorem Tk {s:Scr} {n:Int} (hs:Yt s):Yt { s with p:=bdC (s.p+n) }:=⟨U5 _,hs.2⟩
def sc (L:List Scr) (i:Nat):Scr:=L.getD i zC
end Go.Proofs.YthcjckgmdokmdaaGreatDoor.Ea
