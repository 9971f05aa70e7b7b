import Derived.Test.YthcjckgmdokmdaaGreatDoorXQ02
set_option maxHeartbeats 16000000
namespace Go.Proofs.YthcjckgmdokmdaaGreatDoor
open Go.RowKit
open Pu Gp Ap Vp Np
set_option maxRecDepth 100000
theorem Re (m:Mv) (v a b c:Int) (hm:Yq m=false) (w:World):Ya 61 #[mv m,od v a b c] w (.tuple #[mv zM,.bool false,.int .i64 80]):=by
 have A0:=aL w (.cells (mcs m) 56);have A1:=aL (Ye w m) (.cells #[.int .i64 v,.int .i64 a,.int .i64 b,.int .i64 c] 83);have A2:=aL (Xc (Ye w m) v a b c) (.cells (mcs zM) 56);have p0:=((Yk w m).sT A1).sT A2;have o0:=(V7 (Ye w m) v a b c).sT A2;have q0:=Yk (Xc (Ye w m) v a b c) zM;simp only [Yf] at o0 q0;have HS0:=hid ((A0.trans A1).trans A2);clear A0 A1 A2;obtain ⟨c0,c1,c2,c3,c4,c5,c6,c7,c8,c9,c10,c11,c12,cf⟩:=p0.cells;obtain ⟨d0,d1,d2,d3,df⟩:=o0.cells;have H:=hid (fun w=>Y7 m w);rw [show Yi m=80 by unfold Yi; rw [hm]; rfl] at H;clear hm;go_enter Tryz.func61,Tryz.ntmps61;go_wp2_with fail;refine (H.o _).mono ?_;rintro e w1 ⟨rfl,h1⟩;have q1:=q0.sT h1;have HS1:=hid (HS0.o.trans h1);clear h1 HS0 p0 o0 q0 c0 c1 c2 c3 c4 c5 c6 c7 c8 c9 c10 c11 c12 cf d0 d1 d2 d3 df;obtain ⟨k0,k1,k2,k3,k4,k5,k6,k7,k8,k9,k10,k11,k12,kf⟩:=q1.cells;go_wp2_with fail;refine bodyPost_ret (Mb.rest3 (Mb.put q1 _ _ _ _ _ _ _ _ _ _ _ _ _) rfl _ _ _ rfl rfl rfl) rfl ⟨rfl, ?_⟩;repeat (first | refine Yg ?_ _ _ _ (by omega) | with_reducible exact HS1.o)
theorem Rf (m:Mv) (v a b c x:Int) (hm:Yq m=true) (hc:Zc v a b c=x) (hx:x≠0) (w:World) (ht:OTab w):Ya 61 #[mv m,od v a b c] w (.tuple #[mv zM,.bool false,.int .i64 x]):=by
 have hx1:(x != 0)=true:=by simpa using hx
 clear hx;have A0:=aL w (.cells (mcs m) 56);have A1:=aL (Ye w m) (.cells #[.int .i64 v,.int .i64 a,.int .i64 b,.int .i64 c] 83);have A2:=aL (Xc (Ye w m) v a b c) (.cells (mcs zM) 56);have p0:=((Yk w m).sT A1).sT A2;have o0:=(V7 (Ye w m) v a b c).sT A2;have q0:=Yk (Xc (Ye w m) v a b c) zM;simp only [Yf] at o0 q0;have HS0:=hid ((A0.trans A1).trans A2);clear A0 A1 A2;obtain ⟨c0,c1,c2,c3,c4,c5,c6,c7,c8,c9,c10,c11,c12,cf⟩:=p0.cells;obtain ⟨d0,d1,d2,d3,df⟩:=o0.cells;have H:=hid (fun w=>Y7 m w);rw [show Yi m=0 by unfold Yi; rw [hm]; rfl] at H;have HO:=hid (fun u (hu:Yc w u)=>Uy v a b c u (ht.sT hu));rw [hc] at HO;clear hm hc;go_enter Tryz.func61,Tryz.ntmps61;go_wp2_with fail;refine (H.o _).mono ?_;rintro e w1 ⟨rfl,h1⟩;have p1:=p0.sT h1;have o1:=o0.sT h1;have q1:=q0.sT h1;have HS1:=hid (HS0.o.trans h1);clear h1 HS0 p0 o0 q0 c0 c1 c2 c3 c4 c5 c6 c7 c8 c9 c10 c11 c12 cf d0 d1 d2 d3 df H;obtain ⟨d0,d1,d2,d3,df⟩:=o1.cells;go_wp2_with fail;refine (HO.o _ HS1.o).mono ?_;rintro e w2 ⟨rfl,h2⟩;have p2:=p1.sT h2;have o2:=o1.sT h2;have q2:=q1.sT h2;have HS2:=hid (HS1.o.trans h2);clear h2 HS1 p1 o1 q1 d0 d1 d2 d3 df HO;obtain ⟨c0,c1,c2,c3,c4,c5,c6,c7,c8,c9,c10,c11,c12,cf⟩:=p2.cells;obtain ⟨d0,d1,d2,d3,df⟩:=o2.cells;obtain ⟨k0,k1,k2,k3,k4,k5,k6,k7,k8,k9,k10,k11,k12,kf⟩:=q2.cells;go_wp2_with fail;refine bodyPost_ret (Mb.rest3 (Mb.put q2 _ _ _ _ _ _ _ _ _ _ _ _ _) rfl _ _ _ rfl rfl rfl) rfl ⟨rfl, ?_⟩;repeat (first | refine Yg ?_ _ _ _ (by omega) | with_reducible exact HS2.o)
def Rh (m:Mv) (_a _b v:Int) (X:Mv) (ok:Bool):Prop :=
 (v=1/\m=X/\ok=false/\(m.ou == 0)=false) \/
 (v=2/\m=X/\ok=false/\(m.ou == 0)=false) \/
 (v=3/\m=X/\ok=false/\(m.ou == 0)=false) \/
 (v=4/\m=X/\ok=false/\(m.ou == 0)=false) \/
 (v=5/\m=X/\ok=false/\(m.ou == 0)=false) \/
 (v=6/\m=X/\ok=false/\(m.ou == 0)=false)
theorem UL (m:Mv) (v a b c:Int) (X:Mv) (ok:Bool) (hm:Yq m=true) (hc:Zc v a b c=0) (w:World) (ht:OTab w) (hd:Rh m a b v X ok):Ya 61 #[mv m,od v a b c] w (.tuple #[mv X,.bool ok,.int .i64 0]):=by
  have A0:=aL w (.cells (mcs m) 56);have A1:=aL (Ye w m) (.cells #[.int .i64 v,.int .i64 a,.int .i64 b,.int .i64 c] 83);have A2:=aL (Xc (Ye w m) v a b c) (.cells (mcs zM) 56);have p0:=((Yk w m).sT A1).sT A2;have o0:=(V7 (Ye w m) v a b c).sT A2;have q0:=Yk (Xc (Ye w m) v a b c) zM;simp only [Yf] at o0 q0;have HS0:=hid ((A0.trans A1).trans A2);clear A0 A1 A2;have H:=hid (fun w=>Y7 m w);rw [show Yi m=0 by unfold Yi; rw [hm]; rfl] at H;have HO:=hid (fun u (hu:Yc w u)=>Uy v a b c u (ht.sT hu));rw [hc] at HO;clear hm hc;rcases hd with ⟨rfl,rfl,rfl,u0⟩ | ⟨rfl,rfl,rfl,u0⟩ | ⟨rfl,rfl,rfl,u0⟩ | ⟨rfl,rfl,rfl,u0⟩ | ⟨rfl,rfl,rfl,u0⟩ | ⟨rfl,rfl,rfl,u0⟩ <;>
  (obtain ⟨c0,c1,c2,c3,c4,c5,c6,c7,c8,c9,c10,c11,c12,cf⟩:=p0.cells
   obtain ⟨d0,d1,d2,d3,df⟩:=o0.cells;go_enter Tryz.func61,Tryz.ntmps61;go_wp2_with fail;refine (H.o _).mono ?_;rintro e w1 ⟨rfl,h1⟩;have p1:=p0.sT h1;have o1:=o0.sT h1;have q1:=q0.sT h1;have HS1:=hid (HS0.o.trans h1);clear h1 HS0 p0 o0 q0 c0 c1 c2 c3 c4 c5 c6 c7 c8 c9 c10 c11 c12 cf d0 d1 d2 d3 df H;obtain ⟨d0,d1,d2,d3,df⟩:=o1.cells;go_wp2_with fail;refine (HO.o _ HS1.o).mono ?_;rintro e w2 ⟨rfl,h2⟩;have p2:=p1.sT h2;have o2:=o1.sT h2;have q2:=q1.sT h2;have HS2:=hid (HS1.o.trans h2);clear h2 HS1 p1 o1 q1 d0 d1 d2 d3 df HO;obtain ⟨c0,c1,c2,c3,c4,c5,c6,c7,c8,c9,c10,c11,c12,cf⟩:=p2.cells;obtain ⟨d0,d1,d2,d3,df⟩:=o2.cells;obtain ⟨k0,k1,k2,k3,k4,k5,k6,k7,k8,k9,k10,k11,k12,kf⟩:=q2.cells;go_wp2_with fail;refine bodyPost_ret (Mb.rest3 (Mb.put (m:=zM) ?_ _ _ _ _ _ _ _ _ _ _ _ _ _) rfl _ _ _ rfl rfl rfl) rfl ⟨rfl, ?_⟩
   · repeat (first | refine Mb.other ?_ _ _ _ (by omega) | with_reducible exact q2)
   · repeat (first | refine Yg ?_ _ _ _ (by omega) | with_reducible exact HS2.o))
def Ri (m:Mv) (a b v:Int) (X:Mv) (ok:Bool):Prop :=
 (v=7/\m=X/\ok=false/\(m.ou == 0)=false) \/
 (v=1/\X={ m with px:=32*a,py:=32*b }/\ok=true/\(m.ou == 0)=true/\-8<=a/\a<=8/\-8<=b/\b<=8) \/
 (v=2/\X={ m with px:=0,py:=0 }/\ok=true/\(m.ou == 0)=true) \/
 (v=3/\X={ m with fc:=a }/\ok=true/\(m.ou == 0)=true) \/
 (v=4/\X={ m with en:=m.en - 10*a,co:=4*a }/\ok=true/\(m.ou == 0)=true/\1<=a/\a<=3/\0<=m.en/\m.en<=100/\(m.co == 0)=true/\10*a<=m.en) \/
 (v=5/\X={ m with sh:=false }/\ok=true/\(m.ou == 0)=true/\(a == 0)=true/\(a == 1)=false)
theorem UM (m:Mv) (v a b c:Int) (X:Mv) (ok:Bool) (hm:Yq m=true) (hc:Zc v a b c=0) (w:World) (ht:OTab w) (hd:Ri m a b v X ok):Ya 61 #[mv m,od v a b c] w (.tuple #[mv X,.bool ok,.int .i64 0]):=by
  have A0:=aL w (.cells (mcs m) 56);have A1:=aL (Ye w m) (.cells #[.int .i64 v,.int .i64 a,.int .i64 b,.int .i64 c] 83);have A2:=aL (Xc (Ye w m) v a b c) (.cells (mcs zM) 56);have p0:=((Yk w m).sT A1).sT A2;have o0:=(V7 (Ye w m) v a b c).sT A2;have q0:=Yk (Xc (Ye w m) v a b c) zM;simp only [Yf] at o0 q0;have HS0:=hid ((A0.trans A1).trans A2);clear A0 A1 A2;have H:=hid (fun w=>Y7 m w);rw [show Yi m=0 by unfold Yi; rw [hm]; rfl] at H;have HO:=hid (fun u (hu:Yc w u)=>Uy v a b c u (ht.sT hu));rw [hc] at HO;clear hm hc;rcases hd with ⟨rfl,rfl,rfl,u0⟩ | ⟨rfl,rfl,rfl,u0,u1,u2,u3,u4⟩ | ⟨rfl,rfl,rfl,u0⟩ | ⟨rfl,rfl,rfl,u0⟩ | ⟨rfl,rfl,rfl,u0,u1,u2,u3,u4,u5,u6⟩ | ⟨rfl,rfl,rfl,u0,u1,u2⟩ <;>
  (obtain ⟨c0,c1,c2,c3,c4,c5,c6,c7,c8,c9,c10,c11,c12,cf⟩:=p0.cells
   obtain ⟨d0,d1,d2,d3,df⟩:=o0.cells;go_enter Tryz.func61,Tryz.ntmps61;go_wp2_with fail;refine (H.o _).mono ?_;rintro e w1 ⟨rfl,h1⟩;have p1:=p0.sT h1;have o1:=o0.sT h1;have q1:=q0.sT h1;have HS1:=hid (HS0.o.trans h1);clear h1 HS0 p0 o0 q0 c0 c1 c2 c3 c4 c5 c6 c7 c8 c9 c10 c11 c12 cf d0 d1 d2 d3 df H;obtain ⟨d0,d1,d2,d3,df⟩:=o1.cells;go_wp2_with fail;refine (HO.o _ HS1.o).mono ?_;rintro e w2 ⟨rfl,h2⟩;have p2:=p1.sT h2;have o2:=o1.sT h2;have q2:=q1.sT h2;have HS2:=hid (HS1.o.trans h2);clear h2 HS1 p1 o1 q1 d0 d1 d2 d3 df HO;obtain ⟨c0,c1,c2,c3,c4,c5,c6,c7,c8,c9,c10,c11,c12,cf⟩:=p2.cells;obtain ⟨d0,d1,d2,d3,df⟩:=o2.cells;obtain ⟨k0,k1,k2,k3,k4,k5,k6,k7,k8,k9,k10,k11,k12,kf⟩:=q2.cells;go_wp2_with fail;refine bodyPost_ret (Mb.rest3 (Mb.put (m:=zM) ?_ _ _ _ _ _ _ _ _ _ _ _ _ _) rfl _ _ _ rfl rfl rfl) rfl ⟨rfl, ?_⟩
   · repeat (first | refine Mb.other ?_ _ _ _ (by omega) | with_reducible exact q2)
   · repeat (first | refine Yg ?_ _ _ _ (by omega) | with_reducible exact HS2.o))
def Rj (m:Mv) (a _b v:Int) (X:Mv) (ok:Bool):Prop :=
 (v=5/\X={ m with sh:=true }/\ok=true/\(m.ou == 0)=true/\(a == 0)=false/\(a == 1)=true/\0<m.en) \/
 (v=7/\X={ m with sd:=a }/\ok=true/\(m.ou == 0)=true) \/
 (v=4/\m=X/\ok=false/\(m.ou == 0)=true/\(m.co == 0)=false) \/
 (v=4/\m=X/\ok=false/\(m.ou == 0)=true/\1<=a/\a<=3/\(m.co == 0)=true/\decide (10*a<=m.en)=false) \/
 (v=5/\m=X/\ok=false/\(m.ou == 0)=true/\(a == 0)=false/\decide (0<m.en)=false) \/
 (v=6/\m=X/\ok=false/\(m.ou == 0)=true/\decide (20<=m.en)=false)
theorem UN (m:Mv) (v a b c:Int) (X:Mv) (ok:Bool) (hm:Yq m=true) (hc:Zc v a b c=0) (w:World) (ht:OTab w) (hd:Rj m a b v X ok):Ya 61 #[mv m,od v a b c] w (.tuple #[mv X,.bool ok,.int .i64 0]):=by
  have A0:=aL w (.cells (mcs m) 56);have A1:=aL (Ye w m) (.cells #[.int .i64 v,.int .i64 a,.int .i64 b,.int .i64 c] 83);have A2:=aL (Xc (Ye w m) v a b c) (.cells (mcs zM) 56);have p0:=((Yk w m).sT A1).sT A2;have o0:=(V7 (Ye w m) v a b c).sT A2;have q0:=Yk (Xc (Ye w m) v a b c) zM;simp only [Yf] at o0 q0;have HS0:=hid ((A0.trans A1).trans A2);clear A0 A1 A2;have H:=hid (fun w=>Y7 m w);rw [show Yi m=0 by unfold Yi; rw [hm]; rfl] at H;have HO:=hid (fun u (hu:Yc w u)=>Uy v a b c u (ht.sT hu));rw [hc] at HO;clear hm hc;rcases hd with ⟨rfl,rfl,rfl,u0,u1,u2,u3⟩ | ⟨rfl,rfl,rfl,u0⟩ | ⟨rfl,rfl,rfl,u0,u1⟩ | ⟨rfl,rfl,rfl,u0,u1,u2,u3,u4⟩ | ⟨rfl,rfl,rfl,u0,u1,u2⟩ | ⟨rfl,rfl,rfl,u0,u1⟩ <;>
  (obtain ⟨c0,c1,c2,c3,c4,c5,c6,c7,c8,c9,c10,c11,c12,cf⟩:=p0.cells
   obtain ⟨d0,d1,d2,d3,df⟩:=o0.cells;go_enter Tryz.func61,Tryz.ntmps61;go_wp2_with fail;refine (H.o _).mono ?_;rintro e w1 ⟨rfl,h1⟩;have p1:=p0.sT h1;have o1:=o0.sT h1;have q1:=q0.sT h1;have HS1:=hid (HS0.o.trans h1);clear h1 HS0 p0 o0 q0 c0 c1 c2 c3 c4 c5 c6 c7 c8 c9 c10 c11 c12 cf d0 d1 d2 d3 df H;obtain ⟨d0,d1,d2,d3,df⟩:=o1.cells;go_wp2_with fail;refine (HO.o _ HS1.o).mono ?_;rintro e w2 ⟨rfl,h2⟩;have p2:=p1.sT h2;have o2:=o1.sT h2;have q2:=q1.sT h2;have HS2:=hid (HS1.o.trans h2);clear h2 HS1 p1 o1 q1 d0 d1 d2 d3 df HO;obtain ⟨c0,c1,c2,c3,c4,c5,c6,c7,c8,c9,c10,c11,c12,cf⟩:=p2.cells;obtain ⟨d0,d1,d2,d3,df⟩:=o2.cells;obtain ⟨k0,k1,k2,k3,k4,k5,k6,k7,k8,k9,k10,k11,k12,kf⟩:=q2.cells;go_wp2_with fail;refine bodyPost_ret (Mb.rest3 (Mb.put (m:=zM) ?_ _ _ _ _ _ _ _ _ _ _ _ _ _) rfl _ _ _ rfl rfl rfl) rfl ⟨rfl, ?_⟩
   · repeat (first | refine Mb.other ?_ _ _ _ (by omega) | with_reducible exact q2)
   · repeat (first | refine Yg ?_ _ _ _ (by omega) | with_reducible exact HS2.o))
theorem Mb.enh {w:World} {g:Nat} {m:Mv} (h:Mb w g m) (e:Int):Mb (w.setCell ⟨g,8,none⟩ (.int .i64 e)) g { m with en:=e }:=by
 have h1:=heap_setCell_same w g 8 _ _ (.int .i64 e) h;exact h1.trans (by kernel_rfl)
theorem Rk (m:Mv) (a b c:Int) (hm:Yq m=true) (hc:Zc 6 a b c=0) (he1:20<=m.en) (he2:m.en<=100) (h0:(m.ou == 0)=true) (w:World) (ht:OTab w) (hu:RTab w):Ya 61 #[mv m,od 6 a b c] w (.tuple #[mv { m with en:=m.en - 20,sx:=Yw (ux (dir a)) 1024,sy:=Yw (uy (dir a)) 1024 },.bool true,.int .i64 0]):=by
 have A0:=aL w (.cells (mcs m) 56);have A1:=aL (Ye w m) (.cells #[.int .i64 6,.int .i64 a,.int .i64 b,.int .i64 c] 83);have A2:=aL (Xc (Ye w m) 6 a b c) (.cells (mcs zM) 56);have p0:=((Yk w m).sT A1).sT A2;have o0:=(V7 (Ye w m) 6 a b c).sT A2;have q0:=Yk (Xc (Ye w m) 6 a b c) zM;simp only [Yf] at o0 q0;have HS0:=hid ((A0.trans A1).trans A2);clear A0 A1 A2;obtain ⟨c0,c1,c2,c3,c4,c5,c6,c7,c8,c9,c10,c11,c12,cf⟩:=p0.cells;obtain ⟨d0,d1,d2,d3,df⟩:=o0.cells;have H:=hid (fun w=>Y7 m w);rw [show Yi m=0 by unfold Yi; rw [hm]; rfl] at H;have HO:=hid (fun u (hu:Yc w u)=>Uy 6 a b c u (ht.sT hu));rw [hc] at HO;clear hm hc;go_enter Tryz.func61,Tryz.ntmps61;go_wp2_with fail;refine (H.o _).mono ?_;rintro e w1 ⟨rfl,h1⟩;have p1:=p0.sT h1;have o1:=o0.sT h1;have q1:=q0.sT h1;have HS1:=hid (HS0.o.trans h1);clear h1 HS0 p0 o0 q0 c0 c1 c2 c3 c4 c5 c6 c7 c8 c9 c10 c11 c12 cf d0 d1 d2 d3 df H;obtain ⟨d0,d1,d2,d3,df⟩:=o1.cells;go_wp2_with fail;refine (HO.o _ HS1.o).mono ?_;rintro e w2 ⟨rfl,h2⟩;have p2:=p1.sT h2;have o2:=o1.sT h2;have q2:=q1.sT h2;have HS2:=hid (HS1.o.trans h2);clear h2 HS1 p1 o1 q1 d0 d1 d2 d3 df HO;obtain ⟨c0,c1,c2,c3,c4,c5,c6,c7,c8,c9,c10,c11,c12,cf⟩:=p2.cells;obtain ⟨d0,d1,d2,d3,df⟩:=o2.cells;obtain ⟨k0,k1,k2,k3,k4,k5,k6,k7,k8,k9,k10,k11,k12,kf⟩:=q2.cells;have HS3:=hid (Yg HS2.o w.heap.size 8 (.int .i64 (m.en - 20)) (Nat.le_refl _));have p3:=p2.enh (m.en - 20);have q3:=q2.other w.heap.size 8 (.int .i64 (m.en - 20)) (by omega);have HU:=hid (Gn a _ (hu.sT HS3.o));clear HS2;go_wp2_with fail;refine HU.o.mono ?_;rintro e w4 ⟨rfl,h4⟩;have p4:=p3.sT h4;have q4:=q3.sT h4;have HS4:=hid (HS3.o.trans h4);clear h4 HS3 HU p3 q3 p2 o2 q2 c0 c1 c2 c3 c4 c5 c6 c7 c8 c9 c10 c11 c12 cf d0 d1 d2 d3 df k0 k1 k2 k3 k4 k5 k6 k7 k8 k9 k10 k11 k12 kf;go_wp2_with fail;refine (K1 _ _ 1024 _).mono ?_;rintro e w5 ⟨rfl,h5⟩;have p5:=p4.sT h5;have q5:=q4.sT h5;have HS5:=hid (HS4.o.trans h5);clear h5 HS4 p4 q4;obtain ⟨c0,c1,c2,c3,c4,c5,c6,c7,c8,c9,c10,c11,c12,cf⟩:=p5.cells;obtain ⟨k0,k1,k2,k3,k4,k5,k6,k7,k8,k9,k10,k11,k12,kf⟩:=q5.cells;go_wp2_with fail;refine bodyPost_ret (Mb.rest3 (Mb.put (Mb.other (Mb.other q5 _ _ _ (by omega)) _ _ _ (by omega)) _ _ _ _ _ _ _ _ _ _ _ _ _) rfl _ _ _ rfl rfl rfl) rfl ⟨rfl, ?_⟩;repeat (first | refine Yg ?_ _ _ _ (by omega) | with_reducible exact HS5.o)
theorem Rl {m:Mv} {v a:Int} (h:m.ou≠0):Y6 m v a=false:=by
 unfold Y6;have:(m.ou == 0)=false:=by simpa using h
 rw [this,Bool.false_and]
theorem Rm (m:Mv) (v a b c:Int) (hm:Yq m=true) (hc:Zc v a b c=0) (w:World) (ht:OTab w) (hu:RTab w) :
  Ya 61 #[mv m,od v a b c] w (.tuple #[mv (if Y6 m v a then JD m v a b else m),.bool (Y6 m v a),.int .i64 0]):=by
 have hen:=(mayB_iff.1 hm).2.2.2.2.2.1;by_cases h0:m.ou=0
 ·have h0':(m.ou == 0)=true:=by simpa using h0
  rcases JF hc with ⟨rfl,h1,h2,h3,h4⟩ | rfl | ⟨rfl,h1,h2⟩ | ⟨rfl,h1,h2⟩ | ⟨rfl,h1,h2⟩ | ⟨rfl,h1,h2⟩ | ⟨rfl,h1,h2⟩
  ·rw [show Y6 m 1 a=true by unfold Y6; rw [h0']; rfl];exact UM m 1 a b c _ _ hm hc w ht (.inr (.inl ⟨rfl,rfl,rfl,h0',h1,h2,h3,h4⟩))
  ·rw [show Y6 m 2 a=true by unfold Y6; rw [h0']; rfl];exact UM m 2 a b c _ _ hm hc w ht (.inr (.inr (.inl ⟨rfl,rfl,rfl,h0'⟩)))
  ·rw [show Y6 m 3 a=true by unfold Y6; rw [h0']; rfl];exact UM m 3 a b c _ _ hm hc w ht (.inr (.inr (.inr (.inl ⟨rfl,rfl,rfl,h0'⟩))))
  ·cases hco:(m.co == 0) with
   | false =>
    rw [show Y6 m 4 a=false by unfold Y6; rw [h0',hco]; rfl];exact UN m 4 a b c _ _ hm hc w ht (.inr (.inr (.inl ⟨rfl,rfl,rfl,h0',hco⟩)))
   | true =>
    by_cases he:10*a<=m.en
    ·rw [show Y6 m 4 a=true by unfold Y6; rw [h0',hco]; simp [he]];exact UM m 4 a b c _ _ hm hc w ht (.inr (.inr (.inr (.inr (.inl ⟨rfl,rfl,rfl,h0',h1,h2,hen.1,hen.2,hco,he⟩)))))
    ·rw [show Y6 m 4 a=false by unfold Y6; rw [h0',hco]; simp; omega];exact UN m 4 a b c _ _ hm hc w ht (.inr (.inr (.inr (.inl ⟨rfl,rfl,rfl,h0',h1,h2,hco,(by simpa using he)⟩))))
  ·have ha:a=0\/a=1:=by omega
   rcases ha with rfl | rfl
   ·rw [show Y6 m 5 0=true by unfold Y6; rw [h0']; rfl];exact UM m 5 0 b c _ _ hm hc w ht (.inr (.inr (.inr (.inr (.inr (⟨rfl,rfl,rfl,h0',rfl,rfl⟩))))))
   ·by_cases he:0<m.en
    ·rw [show Y6 m 5 1=true by unfold Y6; rw [h0']; simp [he]];exact UN m 5 1 b c _ _ hm hc w ht (.inl ⟨rfl,rfl,rfl,h0',rfl,rfl,he⟩)
    ·rw [show Y6 m 5 1=false by unfold Y6; rw [h0']; simp; omega];exact UN m 5 1 b c _ _ hm hc w ht (.inr (.inr (.inr (.inr (.inl ⟨rfl,rfl,rfl,h0',rfl,(by simpa using he)⟩)))))
  ·by_cases he:20<=m.en
   ·rw [show Y6 m 6 a=true by unfold Y6; rw [h0']; simp [he]];exact Rk m a b c hm hc he hen.2 h0' w ht hu
   ·rw [show Y6 m 6 a=false by unfold Y6; rw [h0']; simp; omega];exact UN m 6 a b c _ _ hm hc w ht (.inr (.inr (.inr (.inr (.inr (⟨rfl,rfl,rfl,h0',(by simpa using he)⟩))))))
  ·rw [show Y6 m 7 a=true by unfold Y6; rw [h0']; rfl];exact UN m 7 a b c _ _ hm hc w ht (.inr (.inl ⟨rfl,rfl,rfl,h0'⟩))
 ·have h0':(m.ou == 0)=false:=by simpa using h0
  rw [Rl h0];rcases JF hc with ⟨rfl,_⟩ | rfl | ⟨rfl,_⟩ | ⟨rfl,_⟩ | ⟨rfl,_⟩ | ⟨rfl,_⟩ | ⟨rfl,_⟩
  ·exact UL m 1 a b c _ _ hm hc w ht (.inl ⟨rfl,rfl,rfl,h0'⟩)
  ·exact UL m 2 a b c _ _ hm hc w ht (.inr (.inl ⟨rfl,rfl,rfl,h0'⟩))
  ·exact UL m 3 a b c _ _ hm hc w ht (.inr (.inr (.inl ⟨rfl,rfl,rfl,h0'⟩)))
  ·exact UL m 4 a b c _ _ hm hc w ht (.inr (.inr (.inr (.inl ⟨rfl,rfl,rfl,h0'⟩))))
  ·exact UL m 5 a b c _ _ hm hc w ht (.inr (.inr (.inr (.inr (.inl ⟨rfl,rfl,rfl,h0'⟩)))))
  ·exact UL m 6 a b c _ _ hm hc w ht (.inr (.inr (.inr (.inr (.inr (⟨rfl,rfl,rfl,h0'⟩))))))
  ·exact UM m 7 a b c _ _ hm hc w ht (.inl ⟨rfl,rfl,rfl,h0'⟩)
theorem Ro (m:Mv) (v a b c:Int) (w:World) (ht:OTab w) (hu:RTab w) :
  Ya 61 #[mv m,od v a b c] w (.tuple #[mv (ZZ m v a b c),.bool (Ua m v a b c),.int .i64 (X7 m v a b c)]):=by
 unfold ZZ Ua X7;cases hm:Yq m with
 | false=>exact Re m v a b c hm w
 | true =>
  simp only [if_true];by_cases hc:Zc v a b c=0
  ·rw [hc,if_pos rfl];have:=Rm m v a b c hm hc w ht hu;simpa using this
  ·rw [if_neg hc];have e:(Zc v a b c == 0)=false:=by simpa using hc
   rw [e];exact Rf m v a b c _ hm rfl hc w ht
end Go.Proofs.YthcjckgmdokmdaaGreatDoor
