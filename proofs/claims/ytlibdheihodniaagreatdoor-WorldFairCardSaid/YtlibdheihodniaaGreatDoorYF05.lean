/- Parts of the proof, laid end to end. -/
set_option maxRecDepth 100000
namespace Go.Proofs.YtlibdheihodniaaGreatDoor.Ea
structure Scr where
 p:Int
 h:Int
 o:Int
 k:Int
def zC:Scr:=⟨0,0,0,0⟩
def MayC (s:Scr):Prop:=(-2147483647<=s.p/\s.p<=2147483647)/\(0<=s.h/\s.h<=2147483647)/\(0<=s.o/\s.o<=2147483647)/\(0<=s.k/\s.k<=2147483647)
def decMayC (s:Scr):Decidable (MayC s):=by unfold MayC; infer_instance
def mayC (s:Scr):Bool:=@decide (MayC s) (decMayC s)
theorem mayC_iff {s:Scr}:mayC s=true ↔ MayC s:=@decide_eq_true_iff (MayC s) (decMayC s)
theorem mayC_no {s:Scr} (h:¬ MayC s):mayC s=false:=by
 cases e:mayC s with
 | false=>rfl
 | true=>exact absurd (mayC_iff.1 e) h
def chkC (s:Scr):Int:=if mayC s then 0 else 120
theorem chkC_yes {s:Scr} (h:MayC s):chkC s=0:=by unfold chkC; rw [mayC_iff.2 h]; rfl
theorem chkC_no {s:Scr} (h:¬ MayC s):chkC s=120:=by unfold chkC; rw [mayC_no h]; rfl
def bdC (n:Int):Int:=if n > 2147483647 then 2147483647 else if n < -2147483647 then -2147483647 else n
theorem bdC_in (n:Int):-2147483647<=bdC n/\bdC n<=2147483647:=by unfold bdC; split <;> (try split) <;> omega
theorem bdC_id {n:Int} (h1:-2147483647<=n) (h2:n<=2147483647):bdC n=n:=by unfold bdC; rw [if_neg (by omega),if_neg (by omega)]
theorem bdC_pos {n:Int} (h:0<=n):0<=bdC n:=by unfold bdC; split <;> (try split) <;> omega
def moreC (s:Scr) (w:Int) (out:Bool):Int:=if out then w+10+(if s.k<5 then s.k else 5) else w
def hitA (s:Scr) (w:Int) (out:Bool):Scr:=⟨bdC (s.p+moreC s w out),bdC (s.h+1),s.o,if out then bdC (s.k+1) else s.k⟩
def hitW (s:Scr) (out:Bool):Scr:=if out then ⟨bdC (s.p - 2),s.h,bdC (s.o+1),0⟩ else s
def errC (a b:Scr) (w:Int):Int:=if mayC a && mayC b then (if 1<=w/\w<=3 then 0 else 1) else 120
def hit1 (a b:Scr) (w:Int) (out:Bool):Scr:=if errC a b w=0 then hitA a w out else zC
def hit2 (a b:Scr) (w:Int) (out:Bool):Scr:=if errC a b w=0 then hitW b out else zC
theorem errC_yes {a b:Scr} {w:Int} (ha:MayC a) (hb:MayC b) (hw:1<=w/\w<=3):errC a b w=0:=by
 unfold errC; rw [mayC_iff.2 ha,mayC_iff.2 hb,if_pos hw]; rfl
theorem errC_arg {a b:Scr} {w:Int} (ha:MayC a) (hb:MayC b) (hw:¬ (1<=w/\w<=3)):errC a b w=1:=by
 unfold errC; rw [mayC_iff.2 ha,mayC_iff.2 hb,if_neg hw]; rfl
theorem errC_may {a b:Scr} {w:Int} (h:¬ (MayC a/\MayC b)):errC a b w=120:=by
 unfold errC
 rw [if_neg]
 intro e
 rw [Bool.and_eq_true] at e
 exact h ⟨mayC_iff.1 e.1,mayC_iff.1 e.2⟩
theorem moreC_in {s:Scr} {w:Int} {out:Bool} (hs:MayC s) (hw:1<=w/\w<=3):w<=moreC s w out/\moreC s w out<=18:=by
 unfold moreC
 obtain ⟨_,_,_,hk⟩:=hs
 split
 ·split <;> omega
 ·omega
theorem may_hitA {s:Scr} {w:Int} {out:Bool} (hs:MayC s):MayC (hitA s w out):=by
 obtain ⟨h1,h2,h3,h4⟩:=hs
 refine ⟨bdC_in _,⟨bdC_pos (by omega),(bdC_in _).2⟩,h3, ?_⟩
 show 0<=(if out then bdC (s.k+1) else s.k)/\(if out then bdC (s.k+1) else s.k)<=2147483647
 split
 ·exact ⟨bdC_pos (by omega),(bdC_in _).2⟩
 ·exact h4
theorem may_hitW {s:Scr} {out:Bool} (hs:MayC s):MayC (hitW s out):=by
 obtain ⟨h1,h2,h3,h4⟩:=hs
 unfold hitW
 split
 ·exact ⟨bdC_in _,h2,⟨bdC_pos (by omega),(bdC_in _).2⟩,Int.le_refl 0,(by decide:(0:Int)<=2147483647)⟩
 ·exact ⟨h1,h2,h3,h4⟩
def errG (s:Scr) (n:Int):Int:=if mayC s then (if 0<=n/\n<=100 then 0 else 1) else 120
def gain (s:Scr) (n:Int):Scr:=if errG s n=0 then { s with p:=bdC (s.p+n) } else zC
theorem errG_yes {s:Scr} {n:Int} (hs:MayC s) (hn:0<=n/\n<=100):errG s n=0:=by
 unfold errG; rw [mayC_iff.2 hs,if_pos hn]; rfl
theorem errG_arg {s:Scr} {n:Int} (hs:MayC s) (hn:¬ (0<=n/\n<=100)):errG s n=1:=by
 unfold errG; rw [mayC_iff.2 hs,if_neg hn]; rfl
theorem errG_may {s:Scr} {n:Int} (hs:¬ MayC s):errG s n=120:=by
 unfold errG; rw [mayC_no hs]; rfl
theorem may_gain {s:Scr} {n:Int} (hs:MayC s):MayC { s with p:=bdC (s.p+n) }:=⟨bdC_in _,hs.2⟩
def sc (L:List Scr) (i:Nat):Scr:=L.getD i zC
end Go.Proofs.YtlibdheihodniaaGreatDoor.Ea
