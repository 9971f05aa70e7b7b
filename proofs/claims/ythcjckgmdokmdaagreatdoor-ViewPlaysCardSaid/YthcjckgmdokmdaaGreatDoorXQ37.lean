import Derived.Test.YthcjckgmdokmdaaGreatDoorXQ36
import Derived.Test.YthcjckgmdokmdaaGreatDoorXQ25
set_option maxHeartbeats 4000000
namespace Go.Proofs.YthcjckgmdokmdaaGreatDoor
open Go.RowKit
open Pu Gp Ap Vp Np Za Ka Ja Ea Ha Hg Hi
set_option maxRecDepth 100000
theorem B0 (p q C R:Int) (s:ByteArray) (fr nx:Int) (lo ao bo co xo:Option Addr) (ln lc ac bc cc xc n1 n2 m k:Nat) (er:Int) (her:er=130\/er=131) (w:World) (hck:∀ u,Yc w u->Ya 19 #[.agg #[.int .i64 p,.int .u64 q,.int .i64 C,.int .i64 R,.string s,.slice lo ln lc],.agg (Yd fr nx (.slice ao n1 ac) (.slice bo n2 bc) (.slice co m cc) (.slice xo k xc))] u (.int .i64 er)) :
  Ya 7 #[.agg #[.int .i64 p,.int .u64 q,.int .i64 C,.int .i64 R,.string s,.slice lo ln lc],.agg (Yd fr nx (.slice ao n1 ac) (.slice bo n2 bc) (.slice co m cc) (.slice xo k xc))] w (.tuple #[.string ByteArray.empty,.int .i64 230]):=by
 have A0:=aL w (.cells #[.int .i64 p,.int .u64 q,.int .i64 C,.int .i64 R,.string s,.slice lo ln lc] 27);have A1:=aL (w.alloc (.cells #[.int .i64 p,.int .u64 q,.int .i64 C,.int .i64 R,.string s,.slice lo ln lc] 27)) (.cells (Yd fr nx (.slice ao n1 ac) (.slice bo n2 bc) (.slice co m cc) (.slice xo k xc)) 33);have b0:=YE (w.alloc (.cells #[.int .i64 p,.int .u64 q,.int .i64 C,.int .i64 R,.string s,.slice lo ln lc] 27)) fr nx (.slice ao n1 ac) (.slice bo n2 bc) (.slice co m cc) (.slice xo k xc);rw [Yf] at b0;have a0:=Zs w ⟨p,q,C,R,s,.slice lo ln lc⟩;have HS0:=hid (A0.trans A1);have HP0:Hid (Cfb ((w.alloc (.cells #[.int .i64 p,.int .u64 q,.int .i64 C,.int .i64 R,.string s,.slice lo ln lc] 27)).alloc (.cells (Yd fr nx (.slice ao n1 ac) (.slice bo n2 bc) (.slice co m cc) (.slice xo k xc)) 33)) w.heap.size ⟨p,q,C,R,s,.slice lo ln lc⟩):=hid (a0.sT A1);have HQ0:Hid (Wdb ((w.alloc (.cells #[.int .i64 p,.int .u64 q,.int .i64 C,.int .i64 R,.string s,.slice lo ln lc] 27)).alloc (.cells (Yd fr nx (.slice ao n1 ac) (.slice bo n2 bc) (.slice co m cc) (.slice xo k xc)) 33)) (w.heap.size+1) fr nx (.slice ao n1 ac) (.slice bo n2 bc) (.slice co m cc) (.slice xo k xc)):=hid b0;obtain ⟨W0,eW0⟩:∃ X,((w.alloc (.cells #[.int .i64 p,.int .u64 q,.int .i64 C,.int .i64 R,.string s,.slice lo ln lc] 27)).alloc (.cells (Yd fr nx (.slice ao n1 ac) (.slice bo n2 bc) (.slice co m cc) (.slice xo k xc)) 33))=X:=⟨_,rfl⟩;rw [eW0] at HS0 HP0 HQ0;obtain ⟨c0,c1,c2,c3,c4,c5,cf⟩:=HP0.o.cells;dsimp only at c0 c1 c2 c3 c4 c5;obtain ⟨d0,d1,d2,d3,d4,d5,df⟩:=HQ0.o.cells;have HCk:=hid (hck W0 HS0.o);clear A0 A1 b0 a0 hck HP0 HQ0;rcases her with rfl | rfl <;> (
  go_enter Tryz.func7,Tryz.ntmps7;go_wp2_with fail
  (try rw [eW0])
  clear eW0;refine HCk.o.mono ?_;rintro e w1 ⟨rfl,h1⟩;have HS1:=hid (HS0.o.trans h1);clear h1 c0 c1 c2 c3 c4 c5 cf d0 d1 d2 d3 d4 d5 df;go_wp2_with fail;go_ret2
  exact ⟨rfl,HS1.o⟩)
def sgW (C R:Int) (s:ByteArray) (sp:List (Int × Int)) (W:Wd) (c r:Nat):ByteArray:=sgS (Ym C R s (c:Int) (r:Int)) (mvP W.ms c r) (shP W.hs c r) (pkP W.ks sp c r) (fun i=>(pk W.ks i).kd) W.ms.length W.hs.length W.ks.length
structure ShQ (C R:Int) (s:ByteArray) (E:Env) (W:Wd) (ok:Prop) (t:ByteArray) (e:Int):Prop where
 yes:ok->t=XZ (sgW C R s E.sp W) W.fr C.toNat R.toNat W.ms W.cs W.ms.length/\e=0
 no:¬ ok->t=ByteArray.empty/\e=230
theorem ShQ.one {C R:Int} {s:ByteArray} {E:Env} {W:Wd} {ok:Prop} {t t':ByteArray} {e e':Int} (h:ShQ C R s E W ok t e) (k:ShQ C R s E W ok t' e'):t=t'/\e=e':=by
 by_cases o:ok
 ·rw [(h.yes o).1,(h.yes o).2,(k.yes o).1,(k.yes o).2];exact ⟨rfl,rfl⟩
 ·rw [(h.no o).1,(h.no o).2,(k.no o).1,(k.no o).2];exact ⟨rfl,rfl⟩
theorem B5 {m:Mv} {x:Scr} (h:May m) (k:Yt x):VJ m x:=by
 obtain ⟨a,_,_,_,b,c,_,d,_⟩:=h;obtain ⟨e,_⟩:=k;unfold VJ I64;omega
theorem LY (p q C R:Int) (s:ByteArray) (lo:Option Addr) (ln lc:Nat) (E:Env) (l:List Int) (w:World) (v0:Int) (hv0:YZ C R s v0) (A:A13 w ⟨p,q,C,R,s,.slice lo ln lc⟩ v0 E.st) (hsp:∀ u,Calls Tryz.prog 20 #[ar C R s] u fun e w'=>∃ a,e=.returned a/\OwG KT 54 w' u.heap.size a E.sp/\Yc u w') (hr:RdI w lo ln lc l) (W:Wd) (v:Value) (hv:RdW w v W) (ht:PTabV w) :
  Calls Tryz.prog 7 #[.agg #[.int .i64 p,.int .u64 q,.int .i64 C,.int .i64 R,.string s,.slice lo ln lc],v] w fun e w'=>∃ t er,e=.returned (.tuple #[.string t,.int .i64 er])/\ShQ C R s E W (Zo p v0 E.st.length l/\Zr p E W) t er/\Yc w w':=by
 have hW:=hv;obtain ⟨a,b,c,d,rfl,⟨xa,ya,rfl,l1,ha,hra⟩,⟨xb,yb,rfl,l2,hb,hrb⟩,⟨xc,yc,rfl,l3,hc0,hrc⟩,⟨xd,yd,rfl,l4,hd0,hrd⟩⟩:=hv;by_cases hc:Zo p v0 E.st.length l
 ·obtain ⟨N,rfl⟩:∃ N:Nat,p=(N:Int):=⟨p.toNat,by have:=hc.1; omega⟩;by_cases hF:Zr (N:Int) E W
  ·have hvz:v0=0:=hc.2.2.1;subst hvz;obtain ⟨q1,q2,q3,q4,q5,q6⟩:=Xk (UI hv0);obtain ⟨Cn,rfl⟩:∃ k:Nat,C=(k:Int):=⟨C.toNat,by omega⟩;obtain ⟨Rn,rfl⟩:∃ k:Nat,R=(k:Int):=⟨R.toNat,by omega⟩;have hG:=hF.1;rw [Int.toNat_natCast] at hG;obtain ⟨⟨g1,g2,g3,g4⟩,g5,g6,g7,g8⟩:=hG;have hN6:N<=6:=by have:=hc.2.1; omega
   have e2:W.cs.length=W.ms.length:=by omega
   rw [e2] at hrb;have key:=Ob (N:Int) q Cn Rn s W.fr W.nx lo xa xb xc xd ln lc ya yb yc yd W.ms W.cs W.hs W.ks E.sp W.ms.length W.hs.length W.ks.length (by omega) (by omega) (by omega) w hra hrb (by omega) hrc hrd (by have:=g7.1; omega) (fun i hi=>by have:=g7.2.2 i hi; exact ⟨this.2.2.1.1,this.2.2.1.2,this.2.2.2.1.1,this.2.2.2.1.2⟩) (by have:=hF.2; unfold I64; omega) (fun i hi=>B5 (g2 i (by omega)) (g4 i (by omega))) ht (fun u hu=>by
    have h:=QO N q (Cn:Int) (Rn:Int) s lo ln lc E l u 0 (A.sT hu) hsp (hr.sT hu) hc W _ (hW.sT hu);rw [Jj hF,e2] at h;exact h) hsp (sgW (Cn:Int) (Rn:Int) s E.sp W) (fun _ _=>rfl)
   rw [e2];refine key.mono ?_;rintro e w' ⟨rfl,h⟩;exact ⟨_,_,rfl,⟨fun _=>⟨by rw [Int.toNat_natCast,Int.toNat_natCast],rfl⟩,fun o=>absurd ⟨hc,hF⟩ o⟩,h⟩
  ·refine (B0 (N:Int) q C R s W.fr W.nx lo xa xb xc xd ln lc ya yb yc yd W.ms.length W.cs.length W.hs.length W.ks.length 131 (.inr rfl) w (fun u hu=>?_)).mono ?_
   ·have h:=QO N q C R s lo ln lc E l u v0 (A.sT hu) hsp (hr.sT hu) hc W _ (hW.sT hu);rw [Jk hF] at h;exact h
   ·rintro e w' ⟨rfl,h⟩;exact ⟨_,_,rfl,⟨fun o=>absurd o.2 hF,fun _=>⟨rfl,rfl⟩⟩,h⟩
 ·refine (B0 p q C R s W.fr W.nx lo xa xb xc xd ln lc ya yb yc yd W.ms.length W.cs.length W.hs.length W.ks.length 130 (.inl rfl) w (fun u hu=>Bx p q C R s lo ln lc E.st l u v0 (A.sT hu) (hr.sT hu) hc W _ (hW.sT hu))).mono ?_;rintro e w' ⟨rfl,h⟩;exact ⟨_,_,rfl,⟨fun o=>absurd o.1 hc,fun _=>⟨rfl,rfl⟩⟩,h⟩
end Go.Proofs.YthcjckgmdokmdaaGreatDoor
