import Derived.Test.YthcjckgmdokmdaaGreatDoorXQ06
import Derived.Test.YthcjckgmdokmdaaGreatDoorXQ08
import Derived.Test.YthcjckgmdokmdaaGreatDoorXQ09
set_option maxHeartbeats 8000000
namespace Go.Proofs.YthcjckgmdokmdaaGreatDoor
open Go.RowKit
open Pu Gp Ap Vp Np Za Ka Ja Ea Ha
set_option maxRecDepth 100000
def KQ:Kd Pk:=⟨fun p=>[.int .i64 p.no,.int .i64 p.sp,.int .i64 p.kd],3,zK,fun _=>rfl,fun m u hu=>by
 simp at hu;rcases hu with rfl | rfl | rfl <;> rfl,by decide⟩
theorem rdQ {w:World} {B o n:Nat} {L:List Pk} (h:RdG KQ w (some ⟨B,o,none⟩) n L) {i:Nat} (hi:i<n):w.cell? ⟨B,o+i*3,none⟩=some (.int .i64 (pk L i).no)/\w.cell? ⟨B,o+i*3+1,none⟩=some (.int .i64 (pk L i).sp)/\w.cell? ⟨B,o+i*3+2,none⟩=some (.int .i64 (pk L i).kd) :=
 ⟨h.get hi 0 _ rfl,h.get hi 1 _ rfl,h.get hi 2 _ rfl⟩
theorem JP {w:World} {ao:Option Addr} {n:Nat} {L:List Pk} (h:RdG KQ w ao n L):RdK w ao n L:=by
 refine ⟨h.1,h.2.1, ?_⟩;rcases h.2.2 with h0 | ⟨B,o,e,hc⟩
 ·exact .inl h0
 ·exact .inr ⟨B,o,e,fun i hi=>⟨hc i hi 0 _ rfl,hc i hi 1 _ rfl,hc i hi 2 _ rfl⟩⟩
abbrev Yd (fr nx:Int) (a b c d:Value):Array Value:=#[.int .i64 fr,a,b,c,d,.int .i64 nx]
def Wdb (w:World) (g:Nat) (fr nx:Int) (a b c d:Value):Prop:=w.heap[g]?=some (.cells (Yd fr nx a b c d) 33 (0,0))
theorem Wdb.sT {w w':World} {g:Nat} {fr nx:Int} {a b c d:Value} (h:Wdb w g fr nx a b c d) (hs:Yc w w'):Wdb w' g fr nx a b c d:=hs.kept_still h
theorem Wdb.cells {w:World} {g:Nat} {fr nx:Int} {a b c d:Value} (h:Wdb w g fr nx a b c d):w.cell? ⟨g,0,none⟩=some (.int .i64 fr)/\w.cell? ⟨g,1,none⟩=some a/\w.cell? ⟨g,2,none⟩=some b/\w.cell? ⟨g,3,none⟩=some c/\w.cell? ⟨g,4,none⟩=some d/\w.cell? ⟨g,5,none⟩=some (.int .i64 nx)/\∀ o,w.frozen? ⟨g,o,none⟩=false:=by
 refine ⟨?_, ?_, ?_, ?_, ?_, ?_,fun o=>frozen_of_row w g o _ _ h⟩ <;> (rw [cell_of_row _ _ _ _ _ _ h]; rfl)
abbrev DI (w:World) (fr nx:Int) (a b c d:Value):World:=w.alloc (.cells (Yd fr nx a b c d) 33)
theorem YE (w:World) (fr nx:Int) (a b c d:Value):Wdb (DI w fr nx a b c d) w.heap.size fr nx a b c d:=heap_alloc_new w _
def Sl {α:Type} (K:Kd α) (w:World) (v:Value) (L:List α):Prop:=∃ ao cap,v=.slice ao L.length cap/\L.length<=cap/\(ao=none->cap=0)/\RdG K w ao L.length L
theorem Sl.sT {α:Type} {K:Kd α} {w w':World} {v:Value} {L:List α} (h:Sl K w v L) (hs:Yc w w'):Sl K w' v L:=by
 obtain ⟨ao,cap,e,h1,h2,h3⟩:=h;exact ⟨ao,cap,e,h1,h2,h3.sT hs⟩
def RdW (w:World) (v:Value) (W:Wd):Prop:=∃ a b c d,v=.agg (Yd W.fr W.nx a b c d)/\Sl KM w a W.ms/\Sl KC w b W.cs/\Sl KS w c W.hs/\Sl KQ w d W.ks
theorem RdW.sT {w w':World} {v:Value} {W:Wd} (h:RdW w v W) (hs:Yc w w'):RdW w' v W:=by
 obtain ⟨a,b,c,d,e,h1,h2,h3,h4⟩:=h;exact ⟨a,b,c,d,e,h1.sT hs,h2.sT hs,h3.sT hs,h4.sT hs⟩
def zX:Cm:=⟨0,0,0,0,0,0,0⟩
def cm (L:List Cm) (i:Nat):Cm:=L.getD i zX
theorem Qn {L:List Cm} {i:Nat} (h:i<L.length):cm L i=L[i]:=by simp [cm,List.getD,h]
abbrev xcs (x:Cm):Array Value:=#[.int .i64 x.fr,.int .i64 x.pe,.int .i64 x.sq,.int .i64 x.v,.int .i64 x.a,.int .i64 x.b,.int .i64 x.c]
abbrev xv (x:Cm):Value:=.agg (xcs x)
def KX:Kd Cm:=⟨fun x=>(xcs x).toList,7,zX,fun _=>rfl,fun m u hu=>by
 simp at hu;rcases hu with rfl | rfl | rfl | rfl | rfl | rfl | rfl <;> rfl,by decide⟩
theorem TG:∃ i,Tryz.prog.info? 85=some i/\i.zero=some (.agg (KX.f KX.d).toArray)/\i.size=KX.k/\i.bytes=56:=⟨_,rfl,rfl,rfl,rfl⟩
theorem rdX {w:World} {B o n:Nat} {L:List Cm} (h:RdG KX w (some ⟨B,o,none⟩) n L) {i:Nat} (hi:i<n):w.cell? ⟨B,o+i*7,none⟩=some (.int .i64 (cm L i).fr)/\w.cell? ⟨B,o+i*7+1,none⟩=some (.int .i64 (cm L i).pe)/\w.cell? ⟨B,o+i*7+2,none⟩=some (.int .i64 (cm L i).sq)/\w.cell? ⟨B,o+i*7+3,none⟩=some (.int .i64 (cm L i).v)/\w.cell? ⟨B,o+i*7+4,none⟩=some (.int .i64 (cm L i).a)/\w.cell? ⟨B,o+i*7+5,none⟩=some (.int .i64 (cm L i).b)/\w.cell? ⟨B,o+i*7+6,none⟩=some (.int .i64 (cm L i).c) :=
 ⟨h.get hi 0 _ rfl,h.get hi 1 _ rfl,h.get hi 2 _ rfl,h.get hi 3 _ rfl,h.get hi 4 _ rfl,h.get hi 5 _ rfl,h.get hi 6 _ rfl⟩
theorem owX {e:TypeId} {w:World} {B g n cap:Nat} {L:List Cm} (h:OwG KX e w B (.slice (some ⟨g,0,none⟩) n cap) L) {i:Nat} (hi:i<L.length):w.cell? ⟨g,i*7,none⟩=some (.int .i64 (cm L i).fr)/\w.cell? ⟨g,i*7+1,none⟩=some (.int .i64 (cm L i).pe)/\w.cell? ⟨g,i*7+2,none⟩=some (.int .i64 (cm L i).sq)/\w.cell? ⟨g,i*7+3,none⟩=some (.int .i64 (cm L i).v)/\w.cell? ⟨g,i*7+4,none⟩=some (.int .i64 (cm L i).a)/\w.cell? ⟨g,i*7+5,none⟩=some (.int .i64 (cm L i).b)/\w.cell? ⟨g,i*7+6,none⟩=some (.int .i64 (cm L i).c)/\∀ o,w.frozen? ⟨g,o,none⟩=false :=
 ⟨h.get hi 0 _ rfl,h.get hi 1 _ rfl,h.get hi 2 _ rfl,h.get hi 3 _ rfl,h.get hi 4 _ rfl,h.get hi 5 _ rfl,h.get hi 6 _ rfl,h.frozen⟩
def Xb (w:World) (g:Nat) (x:Cm):Prop:=w.heap[g]?=some (.cells (xcs x) 85 (0,0))
theorem Xb.sT {w w':World} {g:Nat} {x:Cm} (h:Xb w g x) (hs:Yc w w'):Xb w' g x:=hs.kept_still h
theorem Xb.cells {w:World} {g:Nat} {x:Cm} (h:Xb w g x):w.cell? ⟨g,0,none⟩=some (.int .i64 x.fr)/\w.cell? ⟨g,1,none⟩=some (.int .i64 x.pe)/\w.cell? ⟨g,2,none⟩=some (.int .i64 x.sq)/\w.cell? ⟨g,3,none⟩=some (.int .i64 x.v)/\w.cell? ⟨g,4,none⟩=some (.int .i64 x.a)/\w.cell? ⟨g,5,none⟩=some (.int .i64 x.b)/\w.cell? ⟨g,6,none⟩=some (.int .i64 x.c)/\∀ o,w.frozen? ⟨g,o,none⟩=false:=by
 refine ⟨?_, ?_, ?_, ?_, ?_, ?_, ?_,fun o=>frozen_of_row w g o _ _ h⟩ <;> (rw [cell_of_row _ _ _ _ _ _ h]; rfl)
abbrev Qo (w:World) (x:Cm):World:=w.alloc (.cells (xcs x) 85)
theorem Jl (w:World) (x:Cm):Xb (Qo w x) w.heap.size x:=heap_alloc_new w _
theorem Jm:∀ (vs:List Value) (w:World) (g o k:Nat),k≠g->(w.setCells g o vs).heap[k]?=w.heap[k]?
 | [],_,_,_,_,_=>rfl
 | v :: r,w,g,o,k,h=>by
  show ((w.setCell ⟨g,o,none⟩ v).setCells g (o+1) r).heap[k]?=_;rw [Jm r _ g (o+1) k h,heap_setCell_other _ _ _ _ h]
theorem Xb.sets {w:World} {h g:Nat} {x:Cm} (hx:Xb w h x) (hg:h≠g) (vs:List Value) (o:Nat):Xb (w.setCells g o vs) h x:=by
 unfold Xb at *
 rw [Jm vs w g o h hg];exact hx
theorem DJ (a b:Cm) (w:World):Ya 34 #[xv a,xv b] w (.bool (ZJ a b)):=by
 have A0:=aL w (.cells (xcs a) 85);have A1:=aL (Qo w a) (.cells (xcs b) 85);have p0:=(Jl w a).sT A1;have q0:=Jl (Qo w a) b;simp only [Yf] at q0;have HS0:=hid (A0.trans A1);obtain ⟨_,c1,c2,_,_,_,_,cf⟩:=p0.cells;obtain ⟨_,d1,d2,_,_,_,_,df⟩:=q0.cells;have HU:=hid (show ZJ a b=(decide (a.pe<b.pe) || (decide (a.pe=b.pe) && decide (a.sq<b.sq))) from rfl);obtain ⟨p,ep⟩:∃ p,a.pe=p:=⟨_,rfl⟩;obtain ⟨q,eq⟩:∃ p,b.pe=p:=⟨_,rfl⟩;obtain ⟨r,er⟩:∃ p,a.sq=p:=⟨_,rfl⟩;obtain ⟨s,es⟩:∃ p,b.sq=p:=⟨_,rfl⟩;rw [ep,eq,er,es] at HU;rw [ep] at c1;rw [er] at c2;rw [eq] at d1;rw [es] at d2;rw [HU.o];clear A0 A1 p0 q0 ep eq er es HU;by_cases h1:p<q
 ·go_enter Tryz.func34,Tryz.ntmps34;go_wp2_with fail;go_ret;exact ⟨by simp [h1],HS0.o⟩
 ·have h1':decide (p<q)=false:=by simpa using h1
  by_cases h2:p=q
  ·have h2':(p == q)=true:=by simpa using h2
   have h2'':decide (p=q)=true:=by simpa using h2
   rw [h1',h2''];clear h1 h2 h2'';go_enter Tryz.func34,Tryz.ntmps34;go_wp2_with fail;go_ret;exact ⟨by simp,HS0.o⟩
  ·have h2':(p == q)=false:=by simpa using h2
   have h2'':decide (p=q)=false:=by simpa using h2
   rw [h1',h2''];clear h1 h2 h2'';go_enter Tryz.func34,Tryz.ntmps34;go_wp2_with fail;go_ret;exact ⟨rfl,HS0.o⟩
def mid (R:List Cm) (x:Cm) (j:Nat):List Cm:=(R.drop j).reverse ++ x :: (R.take j).reverse
theorem TH (R:List Cm) (x:Cm):mid R x 0=R.reverse ++ [x]:=by simp [mid]
theorem JQ {R:List Cm} {x:Cm} {j:Nat} (h:j<=R.length):(mid R x j).length=R.length+1:=by simp [mid]; omega
theorem Qp {R:List Cm} {x:Cm} {j k:Nat} (h:k+j=R.length):cm (mid R x j) k=x:=by
 unfold mid cm;rw [List.getD_eq_getElem?_getD,List.getElem?_append_right (by simp; omega)];simp [show k - (R.length - j)=0 by omega]
theorem DK {R:List Cm} {x:Cm} {j k:Nat} (h:k+1+j=R.length):cm (mid R x j) k=cm R j:=by
 have hj:j<R.length:=by omega
 unfold mid cm;rw [List.getD_eq_getElem?_getD,List.getElem?_append_left (by simp; omega),List.getElem?_reverse (by simp; omega),List.getElem?_drop];simp only [List.length_drop];rw [show j+(R.length - j - 1 - k)=j by omega];rw [List.getD_eq_getElem?_getD]
theorem TI {R:List Cm} {x:Cm} {j k:Nat} (h:k+1+j=R.length):((mid R x j).set (k+1) (cm R j)).set k x=mid R x (j+1):=by
 have hj:j<R.length:=by omega
 have e1:R.drop j=R[j] :: R.drop (j+1):=List.drop_eq_getElem_cons hj;have e2:R.take (j+1)=R.take j ++ [R[j]]:=List.take_succ_eq_append_getElem hj;have hl:(R.drop (j+1)).reverse.length=k:=by simp; omega
 unfold mid;rw [e1,e2,Qn hj];simp only [List.reverse_cons,List.append_assoc,List.reverse_append,List.nil_append,List.cons_append];rw [List.set_append_right _ _ (by omega),hl,show k+1 - k=1 by omega];simp only [List.set_cons_succ,List.set_cons_zero];rw [List.set_append_right _ _ (by omega),hl,show k - k=0 by omega];rfl
theorem Qq:∀ {R:List Cm} {x:Cm} {j:Nat},j<=R.length->(∀ i,i<j->ZJ (cm R i) x=false)->(j=R.length\/ZJ (cm R j) x=true)->mid R x j=(Vs R x).reverse
 | [],x,j,h,_,_=>by
  have:j=0:=by simpa using h
  subst this;rfl
 | y :: R,x,0,_,_,h2=>by
  have h3:ZJ y x=true:=by
   rcases h2 with h2 | h2
   ·simp at h2
   ·simpa [cm] using h2
  unfold Vs;rw [h3];simp [mid]
 | y :: R,x,j+1,h,h1,h2=>by
  have h3:ZJ y x=false:=by simpa [cm] using h1 0 (by omega)
  have ih:=Qq (R:=R) (x:=x) (j:=j) (by simpa using h) (fun i hi=>by simpa [cm] using h1 (i+1) (by omega)) (by
   rcases h2 with h2 | h2
   ·exact .inl (by simpa using h2)
   ·exact .inr (by simpa [cm] using h2))
  unfold Vs;rw [h3];simp only [Bool.false_eq_true,if_false,List.reverse_cons];rw [<- ih];simp [mid]
theorem TJ {f:Int} {l:List Cm} {i:Nat} (h:i<l.length):ofR f (l.take (i+1)) []=if (cm l i).fr=f then Vs (ofR f (l.take i) []) (cm l i) else ofR f (l.take i) []:=by
 have app:∀ (a b acc:List Cm),ofR f (a ++ b) acc=ofR f b (ofR f a acc):=by
  intro a;induction a with
  | nil=>intro b acc; rfl
  | cons x a ih=>intro b acc; exact ih b _
 rw [List.take_succ_eq_append_getElem h,app,Qn h];rfl
theorem TK (f:Int) (l:List Cm):(ofR f l []).length<=l.length:=by
 have h:=(JN f l []).length_eq;rw [h,List.append_nil];exact List.length_filter_le _ _
theorem TL (l:List Cm) (f:Int) (ao:Option Addr) (n cap:Nat) (h47:56*n<=140737488355328) (w:World) (hr:RdG KX w ao n l):Calls Tryz.prog 10 #[.slice ao n cap,.int .i64 f] w fun e w'=>∃ v,e=.returned v/\OwG KX 85 w' w.heap.size v (ofC l f)/\Yc w w':=by
 have HR:=hid hr;have HL:=hid hr.1;have hn2:n<=4398046511104:=by omega
 clear hr;go_enter Tryz.func10,Tryz.ntmps10;go_wp2_with fail;go_loopw [5,6] (fun v u wr=>∃ i:Nat,i<=n/\u=.int .i64 (i:Int)/\OwG KX 85 wr w.heap.size v (ofR f (l.take i) []).reverse/\Yc w wr) (fun _ u _=>n - (intOf u).toNat);case atStart=>exact ⟨0,by omega,rfl,OwG.nil _ _,Fr.refl _ _⟩
 case round =>
  obtain ⟨i,hi,rfl,ho,hs⟩:=hrel;by_cases hlt:i<n
  ·have hlt':(i:Int)<(n:Int):=by omega
   have hr1:=HR.o.sT hs;obtain ⟨B,o,rfl⟩:=hr1.at (by omega);obtain ⟨c0,c1,c2,c3,c4,c5,c6⟩:=rdX hr1 hlt;have HT:=hid (TJ (f:=f) (l:=l) (i:=i) (by have:=HL.o; omega));have hRl:=TK f (l.take i);have hRl2:(ofR f (l.take i) []).length<=i:=by
    have:(l.take i).length<=i:=by simp; omega
    omega
   obtain ⟨R,eR⟩:∃ R,ofR f (l.take i) []=R:=⟨_,rfl⟩;obtain ⟨x,ex⟩:∃ x,cm l i=x:=⟨_,rfl⟩;rw [eR] at ho hRl2;rw [eR,ex] at HT;rw [ex] at c0 c1 c2 c3 c4 c5 c6;have HO:=hid ho;have HS:=hid hs;clear eR ex ho hs hr1 hRl;by_cases hf:x.fr=f
   ·rw [if_pos hf] at HT;have hf':(x.fr != f)=false:=by simpa using hf
    have HY:=hid (Jl wr x);obtain ⟨N,eN⟩:∃ N,R.length=N:=⟨_,rfl⟩;have HN:=hid eN;rw [eN] at hRl2;clear hf eN;go_wp2_with (
     at_builtin;refine XW KX _ rfl _ _ 39 rfl Tryz.underlying39 56 TG w.heap.size wr.heap.size _ R.reverse x rfl rfl (HO.o.sT (aL wr _)) HY.o (by rw [List.length_reverse,HN.o]; omega) (by rw [List.length_reverse,HN.o]; omega) (by have:=HS.o.size; simp; omega) ?_;intro v' w2 ho2 hf2;have HS2:=hid (Zy (HS.o.trans (aL wr _)) (HO.o.sT (aL wr _)) hf2 (Nat.le_refl _));rw [<- TH] at ho2;obtain ⟨g,cp,rfl,hg1,hg2⟩:=ho2.head (by rw [JQ (by omega)]; omega);rw [JQ (by omega),HN.o] at ho2 ⊢;have HO2:=hid ho2;have HG:=hid hg1;clear ho2 hf2 hg1 hg2 HO HS HY c0 c1 c2 c3 c4 c5 c6 hf')
    go_loopw [7] (fun u wx=>∃ j:Nat,j<=N/\u=.int .i64 ((N:Int) - (j:Int))/\OwG KX 85 wx w.heap.size (.slice (some ⟨g,0,none⟩) (N+1) cp) (mid R x j)/\Hid (∀ q,q<j->ZJ (cm R q) x=false)/\Yc w wx) (fun u _=>(intOf u).toNat);case atStart=>exact ⟨0,by omega,by go_num,HO2.o,hid (fun q hq=>by omega),HS2.o⟩
    case round =>
     clear HO2 HS2;obtain ⟨j,hj,rfl,ho3,HQ,hs3⟩:=hrel;have HO3:=hid ho3;have HS3:=hid hs3;clear ho3 hs3;by_cases hk:j<N
     ·obtain ⟨K,eK⟩:∃ K:Nat,(N:Int) - (j:Int)=(K:Int):=⟨N - j,by omega⟩;rw [eK];have hK0:0<K:=by omega
      have hKN:K<=N:=by omega
      have HK:=hid (show K - 1+1+j=R.length by rw [HN.o]; omega);have HK2:=hid (show K+j=R.length by rw [HN.o]; omega);have hml:(mid R x j).length=N+1:=by rw [JQ (by rw [HN.o]; omega),HN.o]
      obtain ⟨a0,a1,a2,a3,a4,a5,a6,af⟩:=owX HO3.o (i:=K - 1) (by omega);obtain ⟨b0,b1,b2,b3,b4,b5,b6,bf⟩:=owX HO3.o (i:=K) (by omega);rw [DK HK.o] at a0 a1 a2 a3 a4 a5 a6;rw [Qp HK2.o] at b0 b1 b2 b3 b4 b5 b6;have HC:=hid (fun u=>DJ (cm R j) x u);have HW:=hid (TI (x:=x) HK.o);have HDone:=hid (fun h=>Qq (R:=R) (x:=x) (j:=j) (by rw [HN.o]; exact hj) HQ.o (.inr h));have HNxt:=hid (show ZJ (cm R j) x=false->∀ q,q<j+1->ZJ (cm R q) x=false from fun h q hq=>by
       by_cases e:q=j
       ·subst e; exact h
       ·exact HQ.o q (by omega))
      obtain ⟨y,ey⟩:∃ y,cm R j=y:=⟨_,rfl⟩;rw [ey] at a0 a1 a2 a3 a4 a5 a6 HC HW HDone HNxt;obtain ⟨b,eb⟩:∃ b,ZJ y x=b:=⟨_,rfl⟩;rw [eb] at HC HDone HNxt;have HE:=hid eK;have HEy:=hid ey;clear ey eb eK hml;have k0:=kC a0;have k1:=kC a1;have k2:=kC a2;have k3:=kC a3;have k4:=kC a4;have k5:=kC a5;have k6:=kC a6;have m0:=kC b0;have m1:=kC b1;have m2:=kC b2;have m3:=kC b3;have m4:=kC b4;have m5:=kC b5;have m6:=kC b6;have hne:=Aft.here wr;have hKp:(K:Int) > 0:=by omega
      have hKl:(K:Int)<(N:Int)+1:=by omega
      have hKl2:(K:Int) - 1<(N:Int)+1:=by omega
      clear a0 a1 a2 a3 a4 a5 a6 b0 b1 b2 b3 b4 b5 b6 af bf;go_wp2_with fail;refine Yo (by kernel_rfl) (by kernel_rfl) ?_;repeat (go_big_quiet_step ((go_at_call 34; exact Calls.cl (HC.o _))))
      refine wpQuiet_nil ?_;intro w4 h4;have HS4:=hid (HS3.o.trans h4);have HO4:=hid (HO3.o.sT h4);clear h4 HS3 HO3 k0 k1 k2 k3 k4 k5 k6 m0 m1 m2 m3 m4 m5 m6 hne HC;cases b with
      | true =>
       have HF:=hid (HDone.o rfl);clear HDone HNxt HW;go_wp2_with fail;go_roundw;case rel=>exact ⟨i+1,by omega,by go_num,by rw [HT.o,<- HF.o]; exact HO4.o,HS4.o⟩
       case measure=>simp [intOf]; omega
      | false =>
       have HF:=hid (HNxt.o rfl);obtain ⟨k,rfl⟩:∃ k,K=k+1:=⟨K - 1,by omega⟩;rw [show ((k+1:Nat):Int)=(k:Int)+1 by omega];rw [show k+1 - 1=k by omega] at HK HW;clear hKl2;clear HDone HNxt;have hml:(mid R x j).length=N+1:=by rw [JQ (by rw [HN.o]; omega),HN.o]
       have A5:=aL w4 (.cells (xcs x) 85);have ho5:=HO4.o.sT A5;have x5:=Jl w4 x;have hgw:w.heap.size<=g:=HG.o;have hg5:g<w4.heap.size:=(HO4.o.block (k:=g) rfl).2;obtain ⟨b0,b1,b2,b3,b4,b5,b6,bf⟩:=owX HO4.o (i:=(k+1)) (by omega);rw [Qp HK2.o] at b0 b1 b2 b3 b4 b5 b6;obtain ⟨W5,eW5⟩:∃ W,w4.alloc (.cells (xcs x) 85)=W:=⟨_,rfl⟩;rw [eW5] at ho5;have x5':Xb W5 w4.heap.size x:=by rw [<- eW5]; exact x5
       have HS5:Hid (Yc w W5):=hid (by rw [<- eW5]; exact HS4.o.trans A5);have h5s:w4.heap.size<W5.heap.size:=by rw [<- eW5]; simp
       clear A5 x5;go_upto_region 13 with fail;clear eW5 b0 b1 b2 b3 b4 b5 b6 bf HO4 HS4;obtain ⟨h5,eh5⟩:∃ h,w4.heap.size=h:=⟨_,rfl⟩;rw [eh5] at x5' hg5 h5s ⊢;clear eh5;obtain ⟨a0,a1,a2,a3,a4,a5,a6,af⟩:=owX ho5 (i:=k) (by omega);rw [DK HK.o,HEy.o] at a0 a1 a2 a3 a4 a5 a6;obtain ⟨b0,b1,b2,b3,b4,b5,b6,bf⟩:=owX ho5 (i:=(k+1)) (by omega);rw [Qp HK2.o] at b0 b1 b2 b3 b4 b5 b6;have HW':=hid (show ((mid R x j).set (k+1) y).set (k) x=mid R x (j+1) from HW.o);have ho6:=ho5.put (i:=(k+1)) (by omega) y;have HS6:=hid (Qk g (KX.f y) ((k+1)*KX.k) W5 HS5.o (.inr hgw));have x6:=Xb.sets x5' (g:=g) (by omega) (KX.f y) ((k+1)*KX.k);obtain ⟨W6,eW6⟩:∃ W,((((((W5.setCell ⟨g,(k+1)*7,none⟩ (.int .i64 y.fr)).setCell ⟨g,(k+1)*7+1,none⟩ (.int .i64 y.pe)).setCell ⟨g,(k+1)*7+2,none⟩ (.int .i64 y.sq)).setCell ⟨g,(k+1)*7+3,none⟩ (.int .i64 y.v)).setCell ⟨g,(k+1)*7+4,none⟩ (.int .i64 y.a)).setCell ⟨g,(k+1)*7+5,none⟩ (.int .i64 y.b)).setCell ⟨g,(k+1)*7+6,none⟩ (.int .i64 y.c)=W:=⟨_,rfl⟩;have ho6':OwG KX 85 W6 w.heap.size (.slice (some ⟨g,0,none⟩) (N+1) cp) ((mid R x j).set (k+1) y):=by rw [<- eW6]; exact ho6
       have HS6':Hid (Yc w W6):=hid (by rw [<- eW6]; exact HS6.o);have x6':Xb W6 h5 x:=by rw [<- eW6]; exact x6
       clear ho6 HS6 x6 HW;go_upto_region 14 with fail;clear eW6 a0 a1 a2 a3 a4 a5 a6 af b0 b1 b2 b3 b4 b5 b6 bf ho5 x5' HS5;have hml2:((mid R x j).set (k+1) y).length=N+1:=by rw [List.length_set]; exact hml
       obtain ⟨b0,b1,b2,b3,b4,b5,b6,bf⟩:=owX ho6' (i:=k) (by omega);obtain ⟨z,ez⟩:∃ z,cm ((mid R x j).set (k+1) y) (k)=z:=⟨_,rfl⟩;rw [ez] at b0 b1 b2 b3 b4 b5 b6;clear ez;obtain ⟨a0,a1,a2,a3,a4,a5,a6,af⟩:=x6'.cells;have ho7:=ho6'.put (i:=k) (by omega) x;have HS7:=hid (Qk g (KX.f x) ((k)*KX.k) W6 HS6'.o (.inr hgw));have HO7:Hid (OwG KX 85 (((((((W6.setCell ⟨g,(k)*7,none⟩ (.int .i64 x.fr)).setCell ⟨g,(k)*7+1,none⟩ (.int .i64 x.pe)).setCell ⟨g,(k)*7+2,none⟩ (.int .i64 x.sq)).setCell ⟨g,(k)*7+3,none⟩ (.int .i64 x.v)).setCell ⟨g,(k)*7+4,none⟩ (.int .i64 x.a)).setCell ⟨g,(k)*7+5,none⟩ (.int .i64 x.b)).setCell ⟨g,(k)*7+6,none⟩ (.int .i64 x.c)) w.heap.size (.slice (some ⟨g,0,none⟩) (N+1) cp) (mid R x (j+1))):=hid (by
        rw [<- HW'.o];exact ho7)
       have HS7':Hid (Yc w (((((((W6.setCell ⟨g,(k)*7,none⟩ (.int .i64 x.fr)).setCell ⟨g,(k)*7+1,none⟩ (.int .i64 x.pe)).setCell ⟨g,(k)*7+2,none⟩ (.int .i64 x.sq)).setCell ⟨g,(k)*7+3,none⟩ (.int .i64 x.v)).setCell ⟨g,(k)*7+4,none⟩ (.int .i64 x.a)).setCell ⟨g,(k)*7+5,none⟩ (.int .i64 x.b)).setCell ⟨g,(k)*7+6,none⟩ (.int .i64 x.c))):=hid HS7.o;clear ho7 HS7 ho6' x6' HS6' hml hml2;go_wp2_with fail;go_roundw;case rel=>exact ⟨j+1,by omega,by rw [show ((j+1:Nat):Int)=(j:Int)+1 by omega,show (N:Int) - ((j:Int)+1)=(k:Int) by have:=HE.o; omega],HO7.o,HF,HS7'.o⟩
       case measure=>simp [intOf]
     ·obtain rfl:j=N:=by omega
      have HF:=hid (Qq (R:=R) (x:=x) (j:=j) (by rw [HN.o]; omega) HQ.o (.inl HN.o.symm));rw [show (j:Int) - (j:Int)=0 by omega];clear hk;go_wp2_with fail;go_roundw;case rel=>exact ⟨i+1,by omega,by go_num,by rw [HT.o,<- HF.o]; exact HO3.o,HS3.o⟩
      case measure=>simp [intOf]; omega
   ·rw [if_neg hf] at HT;have hf':(x.fr != f)=true:=by simpa using hf
    clear hf;go_wp2_with fail;go_roundw;case rel=>exact ⟨i+1,by omega,by go_num,by rw [HT.o]; exact HO.o,HS.o⟩
    case measure=>simp [intOf]; omega
  ·have hge:¬ (i:Int)<(n:Int):=by omega
   obtain rfl:i=n:=by omega
   have ht:l.take i=l:=List.take_of_length_le (by have:=HL.o; omega);rw [ht] at ho;have HO:=hid (And.intro ho hs);clear ho hs hge hlt hi ht;go_wp2_with fail;go_ret;exact ⟨_,rfl,HO.o.1,HO.o.2⟩
def zNn:Nn:=⟨0,0,0⟩
abbrev ncs (x:Nn):Array Value:=#[.int .i64 x.k,.int .i64 x.a,.int .i64 x.b]
def KN:Kd Nn:=⟨fun x=>(ncs x).toList,3,zNn,fun _=>rfl,fun m u hu=>by
 simp at hu;rcases hu with rfl | rfl | rfl <;> rfl,by decide⟩
theorem TM:∃ i,Tryz.prog.info? 49=some i/\i.zero=some (.agg (KN.f KN.d).toArray)/\i.size=KN.k/\i.bytes=24:=⟨_,rfl,rfl,rfl,rfl⟩
structure Cf where
 p:Int
 q:Int
 C:Int
 R:Int
 s:ByteArray
 lg:Value
abbrev gmc (F:Cf) (f fr nx:Int) (a b c d e:Value):Array Value:=#[.int .i64 F.p,.int .u64 F.q,.int .i64 F.C,.int .i64 F.R,.string F.s,F.lg,.int .i64 fr,a,b,c,d,.int .i64 nx,e,.int .i64 f]
def Gk (w:World) (g:Nat) (F:Cf) (f fr nx:Int) (a b c d e:Value):Prop:=w.heap[g]?=some (.cells (gmc F f fr nx a b c d e) 80 (0,0))
section
variable {w w':World} {g:Nat} {F:Cf} {f fr nx:Int} {a b c d e:Value}
theorem Gk.sT (h:Gk w g F f fr nx a b c d e) (hs:Yc w w'):Gk w' g F f fr nx a b c d e:=hs.kept_still h
theorem Gk.ty (h:Gk w g F f fr nx a b c d e):Tyk w g 80:=⟨_,h⟩
theorem Gk.cells (h:Gk w g F f fr nx a b c d e):w.cell? ⟨g,0,none⟩=some (.int .i64 F.p)/\w.cell? ⟨g,1,none⟩=some (.int .u64 F.q)/\w.cell? ⟨g,2,none⟩=some (.int .i64 F.C)/\w.cell? ⟨g,3,none⟩=some (.int .i64 F.R)/\w.cell? ⟨g,4,none⟩=some (.string F.s)/\w.cell? ⟨g,5,none⟩=some F.lg/\w.cell? ⟨g,6,none⟩=some (.int .i64 fr)/\w.cell? ⟨g,7,none⟩=some a/\w.cell? ⟨g,8,none⟩=some b/\w.cell? ⟨g,9,none⟩=some c/\w.cell? ⟨g,10,none⟩=some d/\w.cell? ⟨g,11,none⟩=some (.int .i64 nx)/\w.cell? ⟨g,12,none⟩=some e/\w.cell? ⟨g,13,none⟩=some (.int .i64 f)/\∀ o,w.frozen? ⟨g,o,none⟩=false:=by
 refine ⟨?_, ?_, ?_, ?_, ?_, ?_, ?_, ?_, ?_, ?_, ?_, ?_, ?_, ?_,fun o=>frozen_of_row w g o _ _ h⟩ <;> (rw [cell_of_row _ _ _ _ _ _ h]; rfl)
theorem Gk.setE (h:Gk w g F f fr nx a b c d e) (v:Value):Gk (w.setCell ⟨g,12,none⟩ v) g F f fr nx a b c d v:=(heap_setCell_same w g 12 _ _ v h).trans (by kernel_rfl)
theorem Gk.setC (h:Gk w g F f fr nx a b c d e) (v:Value):Gk (w.setCell ⟨g,9,none⟩ v) g F f fr nx a b v d e:=(heap_setCell_same w g 9 _ _ v h).trans (by kernel_rfl)
theorem Gk.setD (h:Gk w g F f fr nx a b c d e) (v:Value):Gk (w.setCell ⟨g,10,none⟩ v) g F f fr nx a b c v e:=(heap_setCell_same w g 10 _ _ v h).trans (by kernel_rfl)
theorem Gk.setX (h:Gk w g F f fr nx a b c d e) (v:Int):Gk (w.setCell ⟨g,11,none⟩ (.int .i64 v)) g F f fr v a b c d e:=(heap_setCell_same w g 11 _ _ _ h).trans (by kernel_rfl)
theorem Gk.setF (h:Gk w g F f fr nx a b c d e) (v:Int):Gk (w.setCell ⟨g,6,none⟩ (.int .i64 v)) g F f v nx a b c d e:=(heap_setCell_same w g 6 _ _ _ h).trans (by kernel_rfl)
theorem Gk.keepT {B:Nat} {ts:List TypeId} (h:Gk w g F f fr nx a b c d e) (hf:FrT B ts w w') (ht:80 ∉ ts):Gk w' g F f fr nx a b c d e:=hf.kept h ht
end
def GmM (B:Nat) (w:World) (g:Nat) (F:Cf) (f:Int) (G:Gm):Prop:=B<=g/\∃ a b c d e,Gk w g F f G.w.fr G.w.nx a b c d e/\OwG KM 56 w B a G.w.ms/\OwG KC 61 w B b G.w.cs/\OwG KS 122 w B c G.w.hs/\OwG KQ 124 w B d G.w.ks/\OwG KN 49 w B e G.ns
theorem GmM.sT {B:Nat} {w w':World} {g:Nat} {F:Cf} {f:Int} {G:Gm} (h:GmM B w g F f G) (hs:Yc w w'):GmM B w' g F f G:=by
 obtain ⟨h0,a,b,c,d,e,h1,h2,h3,h4,h5,h6⟩:=h;exact ⟨h0,a,b,c,d,e,h1.sT hs,h2.sT hs,h3.sT hs,h4.sT hs,h5.sT hs,h6.sT hs⟩
theorem OwG.setO {α:Type} {K:Kd α} {e:TypeId} {w:World} {B:Nat} {v:Value} {L:List α} (h:OwG K e w B v L) {g o:Nat} {t:TypeId} (hg:Tyk w g t) (ht:e≠t) (u:Value):OwG K e (w.setCell ⟨g,o,none⟩ u) B v L :=
 h.keepT (B:=0) (ts:=[t]) ((FrT.refl 0 [t] w).set hg (by simp) (Nat.zero_le _) u) (by simp; exact ht)
structure Gx (B:Nat) (w:World) (g:Nat) (F:Cf) (f:Int) (G:Gm) (a b c d e:Value):Prop where
 hb:B<=g
 k:Gk w g F f G.w.fr G.w.nx a b c d e
 o1:OwG KM 56 w B a G.w.ms
 o2:OwG KC 61 w B b G.w.cs
 o3:OwG KS 122 w B c G.w.hs
 o4:OwG KQ 124 w B d G.w.ks
 o5:OwG KN 49 w B e G.ns
section
variable {B:Nat} {w w':World} {g:Nat} {F:Cf} {f:Int} {G:Gm} {a b c d e:Value}
theorem GmM.gx (h:GmM B w g F f G):∃ a b c d e,Gx B w g F f G a b c d e:=by
 obtain ⟨h0,a,b,c,d,e,h1,h2,h3,h4,h5,h6⟩:=h;exact ⟨a,b,c,d,e,h0,h1,h2,h3,h4,h5,h6⟩
theorem Gx.gm (h:Gx B w g F f G a b c d e):GmM B w g F f G:=⟨h.hb,a,b,c,d,e,h.k,h.o1,h.o2,h.o3,h.o4,h.o5⟩
theorem Gx.sT (h:Gx B w g F f G a b c d e) (hs:Yc w w'):Gx B w' g F f G a b c d e:=⟨h.hb,h.k.sT hs,h.o1.sT hs,h.o2.sT hs,h.o3.sT hs,h.o4.sT hs,h.o5.sT hs⟩
end
theorem Jn (B:Nat) (g:Nat) (F:Cf) (f:Int) (G:Gm) (va vb vc vd ve:Value) (k a b:Int) (w:World) (hB:B<=w.heap.size) (h:Gx B w g F f G va vb vc vd ve) (h47:(G.ns.length+1)*24<=140737488355328) :
  Calls Tryz.prog 63 #[.pointer (some ⟨g,0,none⟩),.int .i64 k,.int .i64 a,.int .i64 b] w fun e w'=>(∃ v,e=.returned v)/\(∃ z,Gx B w' g F f ⟨G.w,G.ns ++ [⟨k,a,b⟩]⟩ va vb vc vd z)/\FrT B [80,49] w w':=by
 obtain ⟨h0,h1,h2,h3,h4,h5,h6⟩:=h;obtain ⟨ao,cap,rfl,_⟩:=h6.slice;obtain ⟨c0,c1,c2,c3,c4,c5,c6,c7,c8,c9,c10,c11,c12,c13,cf⟩:=h1.cells;have A4:=aL w (.cells #[.int .i64 k,.int .i64 a,.int .i64 b] 49);have HA:=hid A4;have HO4:=hid (h6.sT A4);have HX4:Hid ((w.alloc (.cells #[.int .i64 k,.int .i64 a,.int .i64 b] 49)).heap[w.heap.size]?=some (.cells #[.int .i64 k,.int .i64 a,.int .i64 b] 49 (0,0))):=hid (heap_alloc_new w _);have HB4:=hid (show B<=(w.alloc (.cells #[.int .i64 k,.int .i64 a,.int .i64 b] 49)).heap.size by rw [Yf]; omega);have HLn:=hid h47;have H1:=hid (h1.sT A4);have H2:=hid (h2.sT A4);have H3:=hid (h3.sT A4);have H4:=hid (h4.sT A4);have H5:=hid (h5.sT A4);obtain ⟨m,em⟩:∃ m,G.ns.length=m:=⟨_,rfl⟩;rw [em] at HO4 c12;have HM:=hid em;clear A4 h1 h2 h3 h4 h5 h6 h47 em;go_enter Tryz.func63,Tryz.ntmps63;go_wp2_with (
  at_builtin;refine XW KN _ rfl _ _ 42 rfl Tryz.underlying42 24 TM B w.heap.size _ G.ns ⟨k,a,b⟩ rfl rfl HO4.o HX4.o HLn.o (by have:=HLn.o; omega) HB4.o ?_;intro v' w' ho' hf';have hT:=HO4.o.frT (ts:=[49]) hf' (Nat.le_refl B) (by simp);have k1:=H1.o.keepT hT (by decide);have HT:=hid hT;have HK:=hid k1;have HO:=hid ho';obtain ⟨d0,d1,d2,d3,d4,d5,d6,d7,d8,d9,d10,d11,d12,d13,df⟩:=k1.cells;obtain ⟨g',cap',rfl,_,_⟩:=ho'.head (by simp);clear hT k1 ho' hf' c0 c1 c2 c3 c4 c5 c6 c7 c8 c9 c10 c11 c12 c13 cf)
 go_end0;refine ⟨⟨_,rfl⟩,⟨_,h0,HK.o.setE _, ?_, ?_, ?_, ?_, ?_⟩, ?_⟩
 ·exact (H2.o.keepT HT.o (by decide)).setO HK.o.ty (by decide) _
 ·exact (H3.o.keepT HT.o (by decide)).setO HK.o.ty (by decide) _
 ·exact (H4.o.keepT HT.o (by decide)).setO HK.o.ty (by decide) _
 ·exact (H5.o.keepT HT.o (by decide)).setO HK.o.ty (by decide) _
 ·have h:=HO.o;rw [show (G.ns ++ [(⟨k,a,b⟩:Nn)]).length=G.ns.length+1 by simp] at h;exact h.setO HK.o.ty (by decide) _
 ·exact (((FrT.of_still HA.o).trans (HT.o.mono (by simp))).set HK.o.ty (by simp) h0 _)
theorem JR (B:Nat) (g:Nat) (F:Cf) (f:Int) (G:Gm) (k a b:Int) (w:World) (hB:B<=w.heap.size) (h:GmM B w g F f G) (h47:(G.ns.length+1)*24<=140737488355328) :
  Calls Tryz.prog 63 #[.pointer (some ⟨g,0,none⟩),.int .i64 k,.int .i64 a,.int .i64 b] w fun e w'=>(∃ v,e=.returned v)/\GmM B w' g F f ⟨G.w,G.ns ++ [⟨k,a,b⟩]⟩/\FrT B [80,49] w w':=by
 obtain ⟨va,vb,vc,vd,ve,hx⟩:=h.gx;exact (Jn B g F f G va vb vc vd ve k a b w hB hx h47).mono fun e w' ⟨h1,⟨z,h2⟩,h3⟩=>⟨h1,h2.gm,h3⟩
structure Se where
 F:Cf
 st:Value
 sp:Value
 xs:Value
section
variable {w w':World} {g:Nat} {S:Se} {fr nx:Int} {a b c d e:Value}
end
section
variable {B:Nat} {w w':World} {g:Nat} {S:Se} {G:Gm} {a b c d e:Value}
end
theorem Mb.cl {w:World} {g:Nat} {m:Mv} (h:Mb w g m):(∀ z:Aft w,z.u.cell? ⟨g,0,none⟩=some (.int .i64 m.ax))/\(∀ z:Aft w,z.u.cell? ⟨g,1,none⟩=some (.int .i64 m.ay))/\(∀ z:Aft w,z.u.cell? ⟨g,2,none⟩=some (.int .i64 m.sx))/\(∀ z:Aft w,z.u.cell? ⟨g,3,none⟩=some (.int .i64 m.sy))/\(∀ z:Aft w,z.u.cell? ⟨g,4,none⟩=some (.int .i64 m.px))/\(∀ z:Aft w,z.u.cell? ⟨g,5,none⟩=some (.int .i64 m.py))/\(∀ z:Aft w,z.u.cell? ⟨g,6,none⟩=some (.int .i64 m.fc))/\(∀ z:Aft w,z.u.cell? ⟨g,7,none⟩=some (.int .i64 m.hl))/\(∀ z:Aft w,z.u.cell? ⟨g,8,none⟩=some (.int .i64 m.en))/\(∀ z:Aft w,z.u.cell? ⟨g,9,none⟩=some (.bool m.sh))/\(∀ z:Aft w,z.u.cell? ⟨g,10,none⟩=some (.int .i64 m.co))/\(∀ z:Aft w,z.u.cell? ⟨g,11,none⟩=some (.int .i64 m.ou))/\(∀ z:Aft w,z.u.cell? ⟨g,12,none⟩=some (.int .i64 m.sd)):=by
 obtain ⟨c0,c1,c2,c3,c4,c5,c6,c7,c8,c9,c10,c11,c12,_⟩:=h.cells;exact ⟨kC c0,kC c1,kC c2,kC c3,kC c4,kC c5,kC c6,kC c7,kC c8,kC c9,kC c10,kC c11,kC c12⟩
theorem Sb.cl {w:World} {g:Nat} {m:Sh} (h:Sb w g m):(∀ z:Aft w,z.u.cell? ⟨g,0,none⟩=some (.int .i64 m.no))/\(∀ z:Aft w,z.u.cell? ⟨g,1,none⟩=some (.int .i64 m.ow))/\(∀ z:Aft w,z.u.cell? ⟨g,2,none⟩=some (.int .i64 m.pw))/\(∀ z:Aft w,z.u.cell? ⟨g,3,none⟩=some (.int .i64 m.ax))/\(∀ z:Aft w,z.u.cell? ⟨g,4,none⟩=some (.int .i64 m.ay))/\(∀ z:Aft w,z.u.cell? ⟨g,5,none⟩=some (.int .i64 m.sx))/\(∀ z:Aft w,z.u.cell? ⟨g,6,none⟩=some (.int .i64 m.sy))/\(∀ z:Aft w,z.u.cell? ⟨g,7,none⟩=some (.int .i64 m.lf)):=by
 obtain ⟨c0,c1,c2,c3,c4,c5,c6,c7,_⟩:=h.cells;exact ⟨kC c0,kC c1,kC c2,kC c3,kC c4,kC c5,kC c6,kC c7⟩
theorem Cb.cl {w:World} {g:Nat} {m:Scr} (h:Cb w g m):(∀ z:Aft w,z.u.cell? ⟨g,0,none⟩=some (.int .i64 m.p))/\(∀ z:Aft w,z.u.cell? ⟨g,1,none⟩=some (.int .i64 m.h))/\(∀ z:Aft w,z.u.cell? ⟨g,2,none⟩=some (.int .i64 m.o))/\(∀ z:Aft w,z.u.cell? ⟨g,3,none⟩=some (.int .i64 m.k)):=by
 obtain ⟨c0,c1,c2,c3,_⟩:=h.cells;exact ⟨kC c0,kC c1,kC c2,kC c3⟩
theorem Kb.cl {w:World} {g:Nat} {m:Pk} (h:Kb w g m):(∀ z:Aft w,z.u.cell? ⟨g,0,none⟩=some (.int .i64 m.no))/\(∀ z:Aft w,z.u.cell? ⟨g,1,none⟩=some (.int .i64 m.sp))/\(∀ z:Aft w,z.u.cell? ⟨g,2,none⟩=some (.int .i64 m.kd)):=by
 obtain ⟨c0,c1,c2,_⟩:=h.cells;exact ⟨kC c0,kC c1,kC c2⟩
theorem owS {e:TypeId} {w:World} {B g n cap:Nat} {L:List Sh} (h:OwG KS e w B (.slice (some ⟨g,0,none⟩) n cap) L) {i:Nat} (hi:i<L.length):w.cell? ⟨g,i*8,none⟩=some (.int .i64 (ss L i).no)/\w.cell? ⟨g,i*8+1,none⟩=some (.int .i64 (ss L i).ow)/\w.cell? ⟨g,i*8+2,none⟩=some (.int .i64 (ss L i).pw)/\w.cell? ⟨g,i*8+3,none⟩=some (.int .i64 (ss L i).ax)/\w.cell? ⟨g,i*8+4,none⟩=some (.int .i64 (ss L i).ay)/\w.cell? ⟨g,i*8+5,none⟩=some (.int .i64 (ss L i).sx)/\w.cell? ⟨g,i*8+6,none⟩=some (.int .i64 (ss L i).sy)/\w.cell? ⟨g,i*8+7,none⟩=some (.int .i64 (ss L i).lf)/\∀ o,w.frozen? ⟨g,o,none⟩=false :=
 ⟨h.get hi 0 _ rfl,h.get hi 1 _ rfl,h.get hi 2 _ rfl,h.get hi 3 _ rfl,h.get hi 4 _ rfl,h.get hi 5 _ rfl,h.get hi 6 _ rfl,h.get hi 7 _ rfl,h.frozen⟩
theorem owQ {e:TypeId} {w:World} {B g n cap:Nat} {L:List Pk} (h:OwG KQ e w B (.slice (some ⟨g,0,none⟩) n cap) L) {i:Nat} (hi:i<L.length):w.cell? ⟨g,i*3,none⟩=some (.int .i64 (pk L i).no)/\w.cell? ⟨g,i*3+1,none⟩=some (.int .i64 (pk L i).sp)/\w.cell? ⟨g,i*3+2,none⟩=some (.int .i64 (pk L i).kd)/\∀ o,w.frozen? ⟨g,o,none⟩=false :=
 ⟨h.get hi 0 _ rfl,h.get hi 1 _ rfl,h.get hi 2 _ rfl,h.frozen⟩
theorem DL {e:TypeId} {w:World} {B g n cap:Nat} {L:List Mv} (h:OwG KM e w B (.slice (some ⟨g,0,none⟩) n cap) L) {i:Nat} (hi:i<L.length) {x:Mv} (hx:mm L i=x):(∀ z:Aft w,z.u.cell? ⟨g,i*13,none⟩=some (.int .i64 x.ax))/\(∀ z:Aft w,z.u.cell? ⟨g,i*13+1,none⟩=some (.int .i64 x.ay))/\(∀ z:Aft w,z.u.cell? ⟨g,i*13+2,none⟩=some (.int .i64 x.sx))/\(∀ z:Aft w,z.u.cell? ⟨g,i*13+3,none⟩=some (.int .i64 x.sy))/\(∀ z:Aft w,z.u.cell? ⟨g,i*13+4,none⟩=some (.int .i64 x.px))/\(∀ z:Aft w,z.u.cell? ⟨g,i*13+5,none⟩=some (.int .i64 x.py))/\(∀ z:Aft w,z.u.cell? ⟨g,i*13+6,none⟩=some (.int .i64 x.fc))/\(∀ z:Aft w,z.u.cell? ⟨g,i*13+7,none⟩=some (.int .i64 x.hl))/\(∀ z:Aft w,z.u.cell? ⟨g,i*13+8,none⟩=some (.int .i64 x.en))/\(∀ z:Aft w,z.u.cell? ⟨g,i*13+9,none⟩=some (.bool x.sh))/\(∀ z:Aft w,z.u.cell? ⟨g,i*13+10,none⟩=some (.int .i64 x.co))/\(∀ z:Aft w,z.u.cell? ⟨g,i*13+11,none⟩=some (.int .i64 x.ou))/\(∀ z:Aft w,z.u.cell? ⟨g,i*13+12,none⟩=some (.int .i64 x.sd)):=by
 subst hx;obtain ⟨c0,c1,c2,c3,c4,c5,c6,c7,c8,c9,c10,c11,c12,_⟩:=owM h hi;exact ⟨kC c0,kC c1,kC c2,kC c3,kC c4,kC c5,kC c6,kC c7,kC c8,kC c9,kC c10,kC c11,kC c12⟩
theorem DM {e:TypeId} {w:World} {B g n cap:Nat} {L:List Sh} (h:OwG KS e w B (.slice (some ⟨g,0,none⟩) n cap) L) {i:Nat} (hi:i<L.length) {x:Sh} (hx:ss L i=x):(∀ z:Aft w,z.u.cell? ⟨g,i*8,none⟩=some (.int .i64 x.no))/\(∀ z:Aft w,z.u.cell? ⟨g,i*8+1,none⟩=some (.int .i64 x.ow))/\(∀ z:Aft w,z.u.cell? ⟨g,i*8+2,none⟩=some (.int .i64 x.pw))/\(∀ z:Aft w,z.u.cell? ⟨g,i*8+3,none⟩=some (.int .i64 x.ax))/\(∀ z:Aft w,z.u.cell? ⟨g,i*8+4,none⟩=some (.int .i64 x.ay))/\(∀ z:Aft w,z.u.cell? ⟨g,i*8+5,none⟩=some (.int .i64 x.sx))/\(∀ z:Aft w,z.u.cell? ⟨g,i*8+6,none⟩=some (.int .i64 x.sy))/\(∀ z:Aft w,z.u.cell? ⟨g,i*8+7,none⟩=some (.int .i64 x.lf)):=by
 subst hx;obtain ⟨c0,c1,c2,c3,c4,c5,c6,c7,_⟩:=owS h hi;exact ⟨kC c0,kC c1,kC c2,kC c3,kC c4,kC c5,kC c6,kC c7⟩
theorem TN {e:TypeId} {w:World} {B g n cap:Nat} {L:List (Int × Int)} (h:OwG KT e w B (.slice (some ⟨g,0,none⟩) n cap) L) {i:Nat} (hi:i<L.length) {x:(Int × Int)} (hx:pp L i=x):(∀ z:Aft w,z.u.cell? ⟨g,i*2,none⟩=some (.int .i64 x.1))/\(∀ z:Aft w,z.u.cell? ⟨g,i*2+1,none⟩=some (.int .i64 x.2)):=by
 subst hx;obtain ⟨c0,c1,_⟩:=owT h hi;exact ⟨kC c0,kC c1⟩
end Go.Proofs.YthcjckgmdokmdaaGreatDoor
set_option maxRecDepth 100000
namespace Go.Proofs.YthcjckgmdokmdaaGreatDoor
def IsB (e:Ending) (Q:Prop):Prop:=∃ b,e=.returned (.bool b)/\(b=true ↔ Q)
theorem IsB.yes {Q:Prop} (h:Q):IsB (.returned (.bool true)) Q:=⟨true,rfl,⟨fun _=>h,fun _=>rfl⟩⟩
theorem IsB.no {Q:Prop} (h:¬ Q):IsB (.returned (.bool false)) Q:=⟨false,rfl,⟨fun e=>(by cases e),fun q=>absurd q h⟩⟩
end Go.Proofs.YthcjckgmdokmdaaGreatDoor
set_option maxRecDepth 100000
namespace Go.Proofs.YthcjckgmdokmdaaGreatDoor.Hg
open Pu Gp Ap Vp Np Za Ka Ja Ea Ha
section
variable {σ:Type} (step:σ->Int × Int->σ)
def YF (l:List (Int × Int)) (i:Nat) (g:σ):σ:=(l.filter fun t=>t.1 == (i:Int)).foldl step g
def YK (l:List (Int × Int)) (i:Nat) (g:σ):σ:=(l.filter fun t=>decide (t.1<(i:Int))).foldl step g
theorem DN (l:List (Int × Int)) (i k:Nat) (h:k<l.length) (g:σ):YF step (l.take (k+1)) i g=if (pp l k).1=(i:Int) then step (YF step (l.take k) i g) (pp l k) else YF step (l.take k) i g:=by
 have e:pp l k=l[k]:=by simp [pp,List.getD,h]
 unfold YF;rw [List.take_succ_eq_append_getElem h,List.filter_append,List.foldl_append,e];by_cases hi:l[k].1=(i:Int)
 ·simp [hi]
 ·simp [hi]
theorem DO (l:List (Int × Int)) (i:Nat) (g:σ):YF step (l.take 0) i g=g:=by simp [YF]
theorem DR {l:List (Int × Int)} (h:∀ t∈l,0<=t.1) (g:σ):YK step l 0 g=g:=by
 unfold YK;have e:(l.filter fun t=>decide (t.1<((0:Nat):Int)))=[]:=by
  rw [List.filter_eq_nil_iff];intro t ht;have:=h t ht;simp;omega
 rw [e]; rfl
theorem DS {l:List (Int × Int)} {n:Nat} (h:∀ t∈l,t.1<(n:Int)) (g:σ):YK step l n g=l.foldl step g:=by
 unfold YK;rw [List.filter_eq_self.2 (fun t ht=>by simpa using h t ht)]
theorem DT {i:Nat}:∀ {l:List (Int × Int)},l.Pairwise (fun a b=>a.1<b.1)->(l.filter fun t=>decide (t.1<((i+1:Nat):Int)))=(l.filter fun t=>decide (t.1<(i:Int))) ++ l.filter fun t=>t.1 == (i:Int)
 | [],_=>rfl
 | x :: l,h=>by
  obtain ⟨h1,h2⟩:=List.pairwise_cons.1 h;have ih:=DT (i:=i) h2;rw [List.filter_cons,List.filter_cons,List.filter_cons,ih];by_cases hx:x.1<(i:Int)
  ·have a1:x.1<((i+1:Nat):Int):=by omega
   have a2:¬ x.1=(i:Int):=by omega
   simp [hx,a2];omega
  ·by_cases hy:x.1=(i:Int)
   ·have a1:x.1<((i+1:Nat):Int):=by omega
    have e1:(l.filter fun t=>decide (t.1<(i:Int)))=[]:=by
     rw [List.filter_eq_nil_iff];intro t ht;have:=h1 t ht;simp;omega
    rw [e1];simp [hy];omega
   ·have a1:¬ x.1<((i+1:Nat):Int):=by omega
    simp [hx,hy];omega
theorem DU {l:List (Int × Int)} (h:l.Pairwise (fun a b=>a.1<b.1)) (i:Nat) (g:σ):YK step l (i+1) g=YF step l i (YK step l i g):=by
 unfold YK YF;rw [DT h,List.foldl_append]
end
theorem Qr (P:Nat->Nat->Bool) (n:Nat):∀ m,(rowS P n m).Pairwise (fun a b=>a.1<b.1)/\∀ t∈rowS P n m,0<=t.1/\t.1<(m:Int)
 | 0=>by simp [rowS]
 | m+1=>by
  obtain ⟨h1,h2⟩:=Qr P n m;rw [rowS];refine ⟨List.pairwise_append.2 ⟨h1, ?_,fun a ha b hb=>?_⟩,fun t ht=>?_⟩
  ·split <;> simp
  ·have:=h2 a ha;split at hb
   ·simp at hb; subst hb; exact this.2
   ·simp at hb
  ·rcases List.mem_append.1 ht with h | h
   ·have:=h2 t h; omega
   ·split at h
    ·simp at h; subst h; simp; omega
    ·simp at h
theorem sho_rise {L:List Mv} {S:List Sh}:(sho L S).Pairwise (fun a b=>a.1<b.1)/\∀ t∈sho L S,0<=t.1/\t.1<(S.length:Int):=by
 unfold sho;split
 ·exact Qr _ _ _
 ·simp
theorem pic_rise {L:List Mv} {Q:List Pk} {T:List (Int × Int)}:(pic L Q T).Pairwise (fun a b=>a.1<b.1)/\∀ t∈pic L Q T,0<=t.1/\t.1<(Q.length:Int):=by
 unfold pic;split
 ·exact Qr _ _ _
 ·simp
theorem DV (l:List (Int × Int)) (i k:Nat) (h:k<l.length):Z6 (l.take (k+1)) i=(Z6 (l.take k) i || (pp l k).1 == (i:Int)):=by
 have e:pp l k=l[k]:=by simp [pp,List.getD,h]
 unfold Z6;rw [List.take_succ_eq_append_getElem h,List.any_append,e];simp
theorem DW {α:Type} (F:List α) (l:List (Int × Int)) (i:Nat) (h:i<F.length):Zx (F.take (i+1)) l=Zx (F.take i) l ++ (if Z6 l i then [] else [F[i]]):=by
 unfold Zx;rw [List.take_succ_eq_append_getElem h,List.zipIdx_append,List.filter_append,List.map_append];simp only [List.length_take,Nat.min_eq_left (Nat.le_of_lt h),List.zipIdx_singleton,List.filter_cons,List.filter_nil,Nat.zero_add];cases Z6 l i <;> simp
theorem DX {α:Type} (F:List α) (l:List (Int × Int)):(Zx F l).length<=F.length:=(Qf F l).length_le
end Go.Proofs.YthcjckgmdokmdaaGreatDoor.Hg
namespace Go.Proofs.YthcjckgmdokmdaaGreatDoor
open Go.RowKit
open Pu Gp Ap Vp Np Za Ka Ja Ea Ha Hg
set_option maxRecDepth 100000
theorem TO {n N:Nat} (h:(n+8)*24<=N):(n+1)*24<=N:=by omega
theorem TP {α:Type} {L:List α} (x:α) {N:Nat} (h:(L.length+8)*24<=N):((L ++ [x]).length+1)*24<=N:=by
 have e:(L ++ [x]).length=L.length+1:=by simp
 omega
def glN (E:Env) (L:List Mv):Nat->List Mv
 | 0=>L
 | i+1=>(glN E L i).set i (X8 E.sol (mm L i))
theorem U7 (E:Env) (L:List Mv):∀ i,(glN E L i).length=L.length
 | 0=>rfl
 | i+1=>by rw [glN,List.length_set,U7 E L i]
theorem Qs (E:Env) {L:List Mv}:∀ {i:Nat},i<=L.length->∀ k,k<L.length->mm (glN E L i) k=if k<i then X8 E.sol (mm L k) else mm L k
 | 0,_,k,_=>by simp [glN]
 | i+1,h,k,hk=>by
  rw [glN,Qe (by rw [U7]; omega),Qs E (by omega) k hk];by_cases e:k=i
  ·subst e; simp
  ·rw [if_neg e];by_cases hki:k<i
   ·rw [if_pos hki,if_pos (by omega)]
   ·rw [if_neg hki,if_neg (by omega)]
theorem DY (E:Env) (L:List Mv):glN E L L.length=L.map (X8 E.sol):=by
 apply List.ext_getElem
 ·rw [U7,List.length_map]
 ·intro i h1 h2;rw [U7] at h1;have:=Qs E (L:=L) (Nat.le_refl _) i h1;rw [if_pos h1,Ug (by rw [U7]; exact h1),Ug h1] at this;rw [this,List.getElem_map]
theorem TQ {L:List Mv} {k:Nat} (h:k<(Ja.bod L).length):∃ i j:Nat,pp (Ja.bod L) k=((i:Int),(j:Int))/\i<L.length/\j<L.length:=by
 have hm:pp (Ja.bod L) k∈Ja.bod L:=by
  rw [show pp (Ja.bod L) k=(Ja.bod L)[k] by simp [pp,List.getD,h]];exact List.getElem_mem h
 unfold Ja.bod at hm;split at hm
 ·obtain ⟨i,j,h1,h2,_,h4,_⟩:=Qa hm;exact ⟨i,j,by unfold Ja.bod; rw [if_pos ‹_›]; exact h4,h1,h2⟩
 ·simp at hm
theorem TR (l:List (Int × Int)) (g:Gm) {k:Nat} (h:k<l.length):Z5 (l.take (k+1)) g=XF (Z5 (l.take k) g) (pp l k):=by
 unfold Z5;rw [List.take_succ_eq_append_getElem h,List.foldl_append,show pp l k=l[k] by simp [pp,List.getD,h]];rfl
theorem DZ (l:List (Int × Int)):∀ g:Gm,(Z5 l g).w.ms.length=g.w.ms.length/\(Z5 l g).ns.length=g.ns.length+l.length:=by
 induction l with
 | nil=>intro g; exact ⟨rfl,rfl⟩
 | cons t l ih =>
  intro g;have:=ih (XF g t);unfold Z5 at this ⊢;rw [List.foldl_cons];refine ⟨this.1.trans (by simp [XF]),this.2.trans ?_⟩;simp [XF];omega
theorem TS {n m N:Nat} (e:n=m) (h:(m+1)*24<=N):(n+1)*24<=N:=by subst e; exact h
theorem TT {α:Type} {L M:List α} {m N:Nat} (e:L=M) (h:(M.length+m+1)*24<=N):(L.length+m+1)*24<=N:=by subst e; exact h
theorem TU {n m N:Nat} (h:(n+40)*24<=N) (hm:m<=36):(n+m+1)*24<=N:=Nat.le_trans (Nat.mul_le_mul_right 24 (by omega)) h
def Wa (E:Env) (g:Gm):Gm:=⟨{ g.w with hs:=Yy E g.w.hs },g.ns⟩
theorem TV (H:List Sh) (g:Gm) (s:Sh) (t:Int):Y5 ⟨{ g.w with hs:=H },g.ns⟩ s t=⟨{ (Y5 g s t).w with hs:=H },(Y5 g s t).ns⟩:=by
 unfold Y5;dsimp only;split <;> rfl
theorem TW (H F:List Sh):∀ (l:List (Int × Int)) (g:Gm),Zw F l ⟨{ g.w with hs:=H },g.ns⟩=⟨{ (Zw F l g).w with hs:=H },(Zw F l g).ns⟩
 | [],_=>rfl
 | t :: l,g=>by
  show Zw F l (Y5 ⟨{ g.w with hs:=H },g.ns⟩ (ss F t.1.toNat) t.2)=_;rw [TV,TW H F l];rfl
theorem Qt (Q:List Pk):∀ (l:List (Int × Int)) (g:Gm),(Zi Q l g).w.ks=g.w.ks/\(Zi Q l g).w.nx=g.w.nx/\(Zi Q l g).w.fr=g.w.fr/\(Zi Q l g).w.hs=g.w.hs
 | [],_=>⟨rfl,rfl,rfl,rfl⟩
 | t :: l,g=>by
  have:=Qt Q l (Y3 Q g t);exact ⟨this.1,this.2.1,this.2.2.1,this.2.2.2⟩
theorem Wc {l:List (Int × Int)} {k:Nat} (h:k<l.length):pp l k=l[k]:=by simp [pp,List.getD,h]
end Go.Proofs.YthcjckgmdokmdaaGreatDoor
namespace Go.Proofs.YthcjckgmdokmdaaGreatDoor
open Go.RowKit
open Pu Gp Ap Vp Np Za Ka Ja Ea Ha Hi
set_option maxRecDepth 100000
theorem U8 (n a b:Int) (w:World):Yb 87 #[.int .i64 n,.int .i64 a,.int .i64 b] w (.bool (decide (a<=n/\n<=b))):=by
 by_cases h1:a<=n
 ·by_cases h2:n<=b
  ·rw [show decide (a<=n/\n<=b)=true by simp; omega];go_enter Tryz.func87,Tryz.ntmps87;go_wp2_with fail;go_ret;exact ⟨rfl,rfl⟩
  ·rw [show decide (a<=n/\n<=b)=false by simp; omega];go_enter Tryz.func87,Tryz.ntmps87;go_wp2_with fail;go_ret;exact ⟨rfl,rfl⟩
 ·rw [show decide (a<=n/\n<=b)=false by simp; omega];go_enter Tryz.func87,Tryz.ntmps87;go_wp2_with fail;go_ret;exact ⟨rfl,rfl⟩
theorem TX (n a b:Int) (w:World):Yb 91 #[.int .i64 n,.int .i64 a,.int .i64 b] w (.bool (decide (a<=n/\n<=b))):=by
 by_cases h1:a<=n
 ·by_cases h2:n<=b
  ·rw [show decide (a<=n/\n<=b)=true by simp; omega];go_enter Tryz.func91,Tryz.ntmps91;go_wp2_with fail;go_ret;exact ⟨rfl,rfl⟩
  ·rw [show decide (a<=n/\n<=b)=false by simp; omega];go_enter Tryz.func91,Tryz.ntmps91;go_wp2_with fail;go_ret;exact ⟨rfl,rfl⟩
 ·rw [show decide (a<=n/\n<=b)=false by simp; omega];go_enter Tryz.func91,Tryz.ntmps91;go_wp2_with fail;go_ret;exact ⟨rfl,rfl⟩
def VA (l:List Int) (i:Nat):Prop:=lgs l (i - 1)<lgs l i
theorem Qu {l:List Int} {i:Nat} (h:i<l.length):l[i]=lgs l i:=by simp [lgs,List.getD,h]
theorem TY {l:List Int} (h:∀ i,1<=i->i<l.length->VA l i):∀ i j,i<=j->j<l.length->lgs l i<=lgs l j:=by
 intro i j;induction j with
 | zero =>
  intro h1 _;obtain rfl:i=0:=by omega
  exact Int.le_refl _
 | succ j ih =>
  intro h1 h2;by_cases e:i=j+1
  ·subst e; exact Int.le_refl _
  ·have h3:=ih (by omega) (by omega);have h4:=h (j+1) (by omega) h2;unfold VA at h4;rw [show j+1 - 1=j by omega] at h4;omega
theorem TZ {l:List Int} (h2:2<=l.length) (h5:l.length<=5) (h0:lgs l 0=0) (hr:∀ i,1<=i->i<l.length->VA l i):Vt l ↔ lgs l (l.length - 1)<48:=by
 constructor
 ·rintro ⟨_,_,_,h⟩;exact (h (l.length - 1) (by omega) (by omega)).2
 ·intro h;refine ⟨h2,h5,h0,fun i h1 hl=>⟨hr i h1 hl, ?_⟩⟩;have:=TY hr i (l.length - 1) (by omega) (by omega);omega
theorem We (l:List Int) (lo:Option Addr) (n cap:Nat) (w:World) (hr:RdI w lo n cap l) :
  Calls Tryz.prog 88 #[.slice lo n cap] w fun e w'=>IsB e (Vt l)/\Yc w w':=by
 have hln:=hr.len;have hn:=hr.small;have HR:=hid hr;have HL:=hid hln;clear hr hln;by_cases t0:2<=(n:Int)/\(n:Int)<=5;rotate_left
 ·have HW:Hid (∀ u,Yb 87 #[.int .i64 (n:Int),.int .i64 2,.int .i64 5] u (.bool false)):=hid (fun u=>by have:=U8 (n:Int) 2 5 u; rwa [decide_eq_false t0] at this);have HN:Hid (¬ Vt l):=hid (fun h=>by have:=h.1; have:=h.2.1; have:=HL.o; omega);clear t0;go_enter Tryz.func88,Tryz.ntmps88;go_wp2_with fail;refine (HW.o _).mono ?_;rintro e w1 ⟨he,hw⟩;rw [he,hw];clear he hw w1;go_wp2_with fail;go_ret;exact ⟨IsB.no HN.o,Fr.refl _ _⟩
 have HW:Hid (∀ u,Yb 87 #[.int .i64 (n:Int),.int .i64 2,.int .i64 5] u (.bool true)):=hid (fun u=>by have:=U8 (n:Int) 2 5 u; rwa [decide_eq_true t0] at this);have hn2:2<=n:=by omega
 have hn5:n<=5:=by omega
 clear t0;obtain ⟨B,o,rfl⟩:=HR.o.addr (by omega);have l0:=HR.o.byte (k:=0) (by have:=HL.o; omega);rw [Nat.add_zero,Qu (by have:=HL.o; omega)] at l0;have hpos:(0:Int)<(n:Int):=by omega
 go_enter Tryz.func88,Tryz.ntmps88;go_wp2_with fail;refine (HW.o _).mono ?_;rintro e w1 ⟨he,hw⟩;rw [he,hw];clear he hw w1;obtain ⟨x0,ex0⟩:∃ x,lgs l 0=x:=⟨_,rfl⟩;rw [ex0] at l0;have EX:=hid ex0;clear ex0;by_cases t6:x0=0;rotate_left
 ·have b6:(x0 != 0)=true:=by simpa using t6
  have HN:Hid (¬ Vt l):=hid (fun h=>t6 (by rw [<- EX.o]; exact h.2.2.1));clear t6;go_wp2_with fail;go_ret;exact ⟨IsB.no HN.o,Fr.refl _ _⟩
 subst t6;go_wp2_with fail;clear l0;have HI:Hid (∀ i,1<=i->i<l.length->¬ VA l i->¬ Vt l):=hid (fun i h1 h2 h h3=>h (h3.2.2.2 i h1 h2).1);go_loopw [3] (fun u wr=>∃ i:Nat,1<=i/\i<=n/\u=.int .i64 (i:Int)/\Hid (∀ j,1<=j->j<i->VA l j)/\Yc w wr) (fun u _=>n - (intOf u).toNat);case atStart=>exact ⟨1,by omega,by omega,rfl,hid (fun j h1 h2=>by omega),Fr.refl _ _⟩
 case round =>
  obtain ⟨i,hi1,hi2,rfl,HJ,hs⟩:=hrel;by_cases hin:i<n
  ·have hlt:(i:Int)<(n:Int):=by omega
   obtain ⟨m,rfl⟩:∃ m,i=m+1:=⟨i - 1,by omega⟩;have la:=(HR.o.sT hs).byte (k:=m+1) (by have:=HL.o; omega);have lb:=(HR.o.sT hs).byte (k:=m) (by have:=HL.o; omega);rw [Qu (by have:=HL.o; omega)] at la lb;have HD:Hid (VA l (m+1) ↔ lgs l m<lgs l (m+1)):=hid Iff.rfl;obtain ⟨x,ex⟩:∃ x,lgs l (m+1)=x:=⟨_,rfl⟩;obtain ⟨y,ey⟩:∃ x,lgs l m=x:=⟨_,rfl⟩;rw [ex] at la HD;rw [ey] at lb HD;clear ex ey;have qa:=kC la;have qb:=kC lb;have hne:=Aft.here wr;have z1:((m:Int)+1).toNat=m+1:=by omega
   have z3:(m:Int)+1<(n:Int):=by omega
   have z4:(m:Int)<(n:Int):=by omega
   have z5:(0:Int)<=(m:Int)+1:=by omega
   have HS:=hid hs;have HY:Hid (VA l (m+1)->∀ j,1<=j->j<m+1+1->VA l j):=hid (fun h j h1 h2=>by
    by_cases e:j=m+1
    ·subst e; exact h
    ·exact HJ.o j h1 (by omega))
   clear HJ hs;by_cases g1:x<=y
   ·have e1:decide (x<=y)=true:=decide_eq_true g1;have HX:=hid (HI.o (m+1) hi1 (by have:=HL.o; omega) (fun h=>by have:=HD.o.1 h; omega));clear g1;go_upto_region 6 with fail;refine Yo (by kernel_rfl) (by kernel_rfl) ?_;repeat (go_big_quiet_step (fail))
    refine wpQuiet_nil ?_;intro w3 h3;have HS3:=hid (HS.o.trans h3);clear h3 qa qb hne la lb;go_wp2_with fail
    (first | rw [Exit.noGoto_ret] | skip)
    go_ret;exact ⟨IsB.no HX.o,HS3.o⟩
   ·have e1:decide (x<=y)=false:=decide_eq_false g1;have HX:=hid (HY.o (HD.o.2 (by omega)));clear g1;go_upto_region 6 with fail;refine Yo (by kernel_rfl) (by kernel_rfl) ?_;repeat (go_big_quiet_step (fail))
    refine wpQuiet_nil ?_;intro w3 h3;have HS3:=hid (HS.o.trans h3);clear h3 qa qb hne la lb;go_wp2_with fail;go_roundw;case rel=>exact ⟨m+1+1,by omega,by omega,by go_num,HX,HS3.o⟩
    case measure=>first | (simp [intOf]; done) | (simp [intOf]; omega)
  ·have hge:¬ (i:Int)<(n:Int):=by omega
   obtain rfl:i=n:=by omega
   have HF:=hid (TZ (l:=l) (by have:=HL.o; omega) (by have:=HL.o; omega) EX.o (fun j h1 h2=>HJ.o j h1 (by have:=HL.o; omega)));obtain ⟨m,rfl⟩:∃ m,i=m+1:=⟨i - 1,by omega⟩;have la:=(HR.o.sT hs).byte (k:=m) (by have:=HL.o; omega);rw [Qu (by have:=HL.o; omega)] at la;have hm1:l.length - 1=m:=by have:=HL.o; omega
   rw [hm1] at HF;obtain ⟨x,ex⟩:∃ x,lgs l m=x:=⟨_,rfl⟩;rw [ex] at la HF;have HS:=hid hs;have z4:(m:Int)<(m:Int)+1:=by omega
   clear ex hs HJ hin hm1;by_cases g1:x<48
   ·have e1:decide (x<48)=true:=decide_eq_true g1;have HX:=hid (HF.o.2 g1);clear g1 HF;go_wp2_with fail;go_ret;exact ⟨IsB.yes HX.o,HS.o⟩
   ·have e1:decide (x<48)=false:=decide_eq_false g1;have HX:=hid (fun h=>g1 (HF.o.1 h));clear g1 HF;go_wp2_with fail;go_ret;exact ⟨IsB.no HX.o,HS.o⟩
abbrev cfc (F:Cf):Array Value:=#[.int .i64 F.p,.int .u64 F.q,.int .i64 F.C,.int .i64 F.R,.string F.s,F.lg]
abbrev cfv (F:Cf):Value:=.agg (cfc F)
def Cfb (w:World) (g:Nat) (F:Cf):Prop:=w.heap[g]?=some (.cells (cfc F) 27 (0,0))
theorem Cfb.sT {w w':World} {g:Nat} {F:Cf} (h:Cfb w g F) (hs:Yc w w'):Cfb w' g F:=hs.kept_still h
theorem Cfb.cells {w:World} {g:Nat} {F:Cf} (h:Cfb w g F):w.cell? ⟨g,0,none⟩=some (.int .i64 F.p)/\w.cell? ⟨g,1,none⟩=some (.int .u64 F.q)/\w.cell? ⟨g,2,none⟩=some (.int .i64 F.C)/\w.cell? ⟨g,3,none⟩=some (.int .i64 F.R)/\w.cell? ⟨g,4,none⟩=some (.string F.s)/\w.cell? ⟨g,5,none⟩=some F.lg/\∀ o,w.frozen? ⟨g,o,none⟩=false:=by
 refine ⟨?_, ?_, ?_, ?_, ?_, ?_,fun o=>frozen_of_row w g o _ _ h⟩ <;> (rw [cell_of_row _ _ _ _ _ _ h]; rfl)
abbrev Ui (w:World) (F:Cf):World:=w.alloc (.cells (cfc F) 27)
theorem Zs (w:World) (F:Cf):Cfb (Ui w F) w.heap.size F:=heap_alloc_new w _
def VB (p:Int) (x:Cm):Bool:=decide (0<=x.pe) && (decide (x.pe<p) && (decide (1<=x.sq) && (Zc x.v x.a x.b x.c == 0)))
theorem rgtB_iff {p:Int} {x:Cm}:VB p x=true ↔ Rgt p.toNat x:=by
 unfold VB Rgt;simp only [Bool.and_eq_true,decide_eq_true_eq,beq_iff_eq];constructor
 ·rintro ⟨h1,h2,h3,h4⟩;exact ⟨h1,by omega,h3,h4⟩
 ·rintro ⟨h1,h2,h3,h4⟩;exact ⟨h1,by omega,h3,h4⟩
theorem Aa (F:Cf) (x:Cm) (w:World) (hk:∀ u,Yc w u->Ya 110 #[od x.v x.a x.b x.c] u (.int .i64 (Zc x.v x.a x.b x.c))) :
  Ya 60 #[cfv F,xv x] w (.bool (VB F.p x)):=by
 have A0:=aL w (.cells (cfc F) 27);have A1:=aL (Ui w F) (.cells (xcs x) 85);have p0:=(Zs w F).sT A1;have q0:=Jl (Ui w F) x;simp only [Yf] at q0;have HS0:=hid (A0.trans A1);have HK:=hid (hk _ (A0.trans A1));have HR:Hid (VB F.p x=(decide (0<=x.pe) && (decide (x.pe<F.p) && (decide (1<=x.sq) && (Zc x.v x.a x.b x.c == 0))))):=hid rfl;obtain ⟨r,er⟩:∃ r,VB F.p x=r:=⟨_,rfl⟩;rw [er] at HR ⊢;obtain ⟨E,eE⟩:∃ E,Zc x.v x.a x.b x.c=E:=⟨_,rfl⟩;rw [eE] at HK HR;obtain ⟨d0,d1,d2,d3,d4,d5,d6,df⟩:=q0.cells;clear A0 A1 hk er eE;go_enter Tryz.func60,Tryz.ntmps60;go_wp2_with fail;refine HK.o.mono ?_;rintro e w1 ⟨rfl,h1⟩;have p1:=p0.sT h1;have q1:=q0.sT h1;have HS1:=hid (HS0.o.trans h1);clear d0 d1 d2 d3 d4 d5 d6 df h1 p0 q0 HS0 HK;obtain ⟨c0,c1,c2,c3,c4,c5,cf⟩:=p1.cells;obtain ⟨d0,d1,d2,d3,d4,d5,d6,df⟩:=q1.cells;cases b0:decide (0<=x.pe) with
 | false =>
  have b0':decide (x.pe ≥ 0)=false:=b0;rw [b0] at HR;go_wp2_with fail;go_ret;exact ⟨by rw [HR.o]; rfl,HS1.o⟩
 | true =>
  have b0':decide (x.pe ≥ 0)=true:=b0;cases b1:decide (x.pe<F.p) with
  | false =>
   rw [b0,b1] at HR;go_wp2_with fail;go_ret;exact ⟨by rw [HR.o]; rfl,HS1.o⟩
  | true =>
   cases b2:decide (1<=x.sq) with
   | false =>
    have b2':decide (x.sq ≥ 1)=false:=b2;rw [b0,b1,b2] at HR;go_wp2_with fail;go_ret;exact ⟨by rw [HR.o]; rfl,HS1.o⟩
   | true =>
    have b2':decide (x.sq ≥ 1)=true:=b2;cases b3:E == 0 with
    | false =>
     rw [b0,b1,b2,b3] at HR;go_wp2_with fail;go_ret;exact ⟨by rw [HR.o]; rfl,HS1.o⟩
    | true =>
     rw [b0,b1,b2,b3] at HR;go_wp2_with fail;go_ret;exact ⟨by rw [HR.o]; rfl,HS1.o⟩
def VC (p f:Int) (l:List Cm) (i:Nat):Prop:=(VB p (cm l i)=true/\(cm l i).fr=f)/\(0<i->ZJ (cm l (i - 1)) (cm l i)=true)
theorem ordA_iff {p f:Int} {l:List Cm}:(∀ i,i<l.length->VC p f l i) ↔ Xr p f l:=by
 unfold VC Xr;exact ⟨fun h i hi=>⟨⟨rgtB_iff.1 (h i hi).1.1,(h i hi).1.2⟩,(h i hi).2⟩,fun h i hi=>⟨⟨rgtB_iff.2 (h i hi).1.1,(h i hi).1.2⟩,(h i hi).2⟩⟩
def Ac (p f:Int) (l:List Cm) (v:Value):Prop:=∃ b:Bool,v=.bool b/\(b=true ↔ Xr p f l)
theorem Ad (F:Cf) (f:Int) (l:List Cm) (ao:Option Addr) (n cap:Nat) (w:World) (hr:RdG KX w ao n l) (hk:∀ (x:Cm) (u:World),Yc w u->Ya 110 #[od x.v x.a x.b x.c] u (.int .i64 (Zc x.v x.a x.b x.c))) :
  Calls Tryz.prog 27 #[cfv F,.int .i64 f,.slice ao n cap] w fun e w'=>∃ v,e=.returned v/\Ac F.p f l v/\Yc w w':=by
 have A0:=aL w (.cells (cfc F) 27);have p0:=Zs w F;have HP0:=hid p0;have HA0:=hid A0;have HR:=hid hr;have HL:=hid hr.1;have hn47:n<=281474976710656:=hr.2.1;have HR1:=hid (fun (x:Cm) (u:World) (hu:Yc w u)=>Aa F x u (fun v hv=>hk x v (hu.trans hv)));clear hr hk A0 p0;go_enter Tryz.func27,Tryz.ntmps27;go_wp2_with fail;go_loopw [7] (fun u wr=>∃ i:Nat,i<=n/\u=.int .i64 (i:Int)/\Hid (∀ j,j<i->VC F.p f l j)/\Yc (Ui w F) wr) (fun u _=>n - (intOf u).toNat);case atStart=>exact ⟨0,by omega,rfl,hid (fun j hj=>by omega),Fr.refl _ _⟩
 case round =>
  obtain ⟨i,hi,rfl,HJ,hs⟩:=hrel;have HS:=hid hs;have HSw:=hid (HA0.o.trans hs);by_cases hin:i<n
  ·have hlt:(i:Int)<(n:Int):=by omega
   have hr1:=HR.o.sT HSw.o;obtain ⟨B,o,rfl⟩:=hr1.at (by omega);have HX:=hid (fun u (hu:Yc wr u)=>rdX (hr1.sT hu) hin);have HY:=hid (fun u (hu:Yc wr u) (h0:0<i)=>rdX (hr1.sT hu) (i:=i - 1) (by omega));have HC:=hid (fun u (hu:Yc wr u)=>((HP0.o.sT HS.o).sT hu).cells);have HRg:=hid (fun u (hu:Yc wr u)=>HR1.o (cm l i) u (HSw.o.trans hu));have HLs:=hid (fun u=>DJ (cm l (i - 1)) (cm l i) u);have HNo:=hid (show ¬ VC F.p f l i->¬ Xr F.p f l from fun h hc=>h (ordA_iff.2 hc i (by rw [HL.o]; exact hin)));have HYes:=hid (show VC F.p f l i->∀ j,j<i+1->VC F.p f l j from fun h j hj=>by
    by_cases e:j=i
    ·subst e; exact h
    ·exact HJ.o j (by omega))
   have HDf:Hid (VC F.p f l i ↔ (VB F.p (cm l i)=true/\(cm l i).fr=f)/\(0<i->ZJ (cm l (i - 1)) (cm l i)=true)):=hid Iff.rfl;obtain ⟨x,ex⟩:∃ x,cm l i=x:=⟨_,rfl⟩;obtain ⟨y,ey⟩:∃ x,cm l (i - 1)=x:=⟨_,rfl⟩;rw [ex] at HX HRg HLs HDf;rw [ey] at HY HLs HDf;obtain ⟨b1,eb1⟩:∃ b,VB F.p x=b:=⟨_,rfl⟩;obtain ⟨b2,eb2⟩:∃ b,ZJ y x=b:=⟨_,rfl⟩;rw [eb1] at HRg HDf;rw [eb2] at HLs HDf;obtain ⟨x0,x1,x2,x3,x4,x5,x6⟩:=HX.o wr (Fr.refl _ _);obtain ⟨c0,c1,c2,c3,c4,c5,cf⟩:=HC.o wr (Fr.refl _ _);have k0:=kC c0;have k1:=kC c1;have k2:=kC c2;have k3:=kC c3;have k4:=kC c4;have k5:=kC c5;have l0:=kC x0;have l1:=kC x1;have l2:=kC x2;have l3:=kC x3;have l4:=kC x4;have l5:=kC x5;have l6:=kC x6;have HRz:=hid (fun (z:Aft wr)=>HRg.o z.u z.s);have hne:=Aft.here wr;clear ex ey eb1 eb2 c0 c1 c2 c3 c4 c5 cf x0 x1 x2 x3 x4 x5 x6 hr1 hs;go_upto_region 4 with fail;refine Yo (by kernel_rfl) (by kernel_rfl) ?_;repeat (go_big_quiet_step ((go_at_call 60; with_reducible exact Calls.cl (HRz.o _))))
   refine wpQuiet_nil ?_;intro w2 h2;have HS2:=hid (HS.o.trans h2);have HSw2:=hid (HSw.o.trans h2);obtain ⟨x0,x1,x2,x3,x4,x5,x6⟩:=HX.o w2 h2;have HY2:=hid (fun u (hu:Yc w2 u) (h0:0<i)=>HY.o u (h2.trans hu) h0);have HX2:=hid (fun u (hu:Yc w2 u)=>HX.o u (h2.trans hu));clear k0 k1 k2 k3 k4 k5 l0 l1 l2 l3 l4 l5 l6 hne h2 HC HRg HRz HX HY HS HSw;cases b1 with
   | false =>
    have HN:=hid (HNo.o (fun h=>by have:=(HDf.o.1 h).1.1; cases this));clear HNo HYes HDf;go_wp2_with fail
    (first | rw [Exit.noGoto_ret] | skip)
    go_ret;exact ⟨_,rfl,⟨false,rfl,⟨fun h=>(by cases h),fun h=>absurd h HN.o⟩⟩,HSw2.o⟩
   | true =>
    cases b3:x.fr != f with
    | true =>
     have HN:=hid (HNo.o (fun h=>by have:=(HDf.o.1 h).1.2; simp [this] at b3));clear HNo HYes HDf;go_wp2_with fail
     (first | rw [Exit.noGoto_ret] | skip)
     go_ret;exact ⟨_,rfl,⟨false,rfl,⟨fun h=>(by cases h),fun h=>absurd h HN.o⟩⟩,HSw2.o⟩
    | false =>
     have HB3:=hid (show x.fr=f by simpa using b3);by_cases h0:0<i
     ·have h0':(i:Int) > 0:=by omega
      have hlm:(i:Int) - 1<(n:Int):=by omega
      go_upto_region 8 with fail;clear b3;obtain ⟨y0,y1,y2,y3,y4,y5,y6⟩:=HY2.o w2 (Fr.refl _ _) h0;have l0:=kC x0;have l1:=kC x1;have l2:=kC x2;have l3:=kC x3;have l4:=kC x4;have l5:=kC x5;have l6:=kC x6;have q0:=kC y0;have q1:=kC y1;have q2:=kC y2;have q3:=kC y3;have q4:=kC y4;have q5:=kC y5;have q6:=kC y6;have hne:=Aft.here w2;clear x0 x1 x2 x3 x4 x5 x6 y0 y1 y2 y3 y4 y5 y6;have HNx:=hid (show b2=false->¬ Xr F.p f l from fun e=>HNo.o (fun h=>by have:=(HDf.o.1 h).2 h0; rw [e] at this; cases this));have HYx:=hid (show b2=true->∀ j,j<i+1->VC F.p f l j from fun e=>HYes.o (HDf.o.2 ⟨⟨rfl,HB3.o⟩,fun _=>e⟩));clear HNo HYes HDf;refine Yo (by kernel_rfl) (by kernel_rfl) ?_;repeat (go_big_quiet_step ((go_at_call 34; with_reducible exact Calls.cl (HLs.o _))))
      refine wpQuiet_nil ?_;intro w3 h3;have HS3:=hid (HS2.o.trans h3);have HSw3:=hid (HSw2.o.trans h3);clear l0 l1 l2 l3 l4 l5 l6 q0 q1 q2 q3 q4 q5 q6 hne h3 HS2 HSw2 HX2 HY2 HLs;cases b2 with
      | false =>
       have HN:=hid (HNx.o rfl);clear HNx HYx;go_wp2_with fail
       (first | rw [Exit.noGoto_ret] | skip)
       go_ret;exact ⟨_,rfl,⟨false,rfl,⟨fun h=>(by cases h),fun h=>absurd h HN.o⟩⟩,HSw3.o⟩
      | true =>
       have HY1:=hid (HYx.o rfl);clear HNx HYx;go_wp2_with fail;go_roundw;case rel=>exact ⟨i+1,by omega,by go_num,HY1,HS3.o⟩
       case measure=>first | (simp [intOf]; done) | (simp [intOf]; omega)
     ·have h0':¬ (i:Int) > 0:=by omega
      have HY1:=hid (HYes.o (HDf.o.2 ⟨⟨rfl,HB3.o⟩,fun h=>absurd h h0⟩));clear HNo HYes HDf;go_wp2_with fail;go_roundw;case rel=>exact ⟨i+1,by omega,by go_num,HY1,HS2.o⟩
      case measure=>first | (simp [intOf]; done) | (simp [intOf]; omega)
  ·have hge:¬ (i:Int)<(n:Int):=by omega
   have HE:Hid (Xr F.p f l):=hid (ordA_iff.1 (fun j hj=>HJ.o j (by have:=HL.o; omega)));clear hin hs;go_wp2_with fail;go_ret;exact ⟨_,rfl,⟨true,rfl,⟨fun _=>HE.o,fun _=>rfl⟩⟩,HSw.o⟩
end Go.Proofs.YthcjckgmdokmdaaGreatDoor
namespace Go.Proofs.YthcjckgmdokmdaaGreatDoor
open Go.RowKit
open Pu Gp Ap Vp Np Za Ka Ja Ea Ha
set_option maxRecDepth 100000
theorem Vu {o:Oper} {ρ:Operand->Value} {x y:Operand} {u:World} {g:Nat} {m:Mv} (ho:o.op=.store 56 x y) (hx:ρ x=.pointer (some ⟨g,0,none⟩)) (hy:ρ y=mv m) (hh:u.heap[g]?=some (.cells (mcs zM) 56 (0,0))) :
  ∃ u',(execOp ρ o).run Tryz.prog u=.ok .skip u'/\u'.heap[g]?=some (.cells (mcs m) 56 (0,0))/\Fr (fun i=>i=g) u u':=by
 have hb:Mb u g zM:=hh;obtain ⟨d0,d1,d2,d3,d4,d5,d6,d7,d8,d9,d10,d11,d12,df⟩:=hb.cells;have hput:=hb.put m.ax m.ay m.sx m.sy m.px m.py m.fc m.hl m.en m.sh m.co m.ou m.sd;refine ⟨(((((((((((((u.setCell ⟨g,0,none⟩ (.int .i64 m.ax)).setCell ⟨g,1,none⟩ (.int .i64 m.ay)).setCell ⟨g,2,none⟩ (.int .i64 m.sx)).setCell ⟨g,3,none⟩ (.int .i64 m.sy)).setCell ⟨g,4,none⟩ (.int .i64 m.px)).setCell ⟨g,5,none⟩ (.int .i64 m.py)).setCell ⟨g,6,none⟩ (.int .i64 m.fc)).setCell ⟨g,7,none⟩ (.int .i64 m.hl)).setCell ⟨g,8,none⟩ (.int .i64 m.en)).setCell ⟨g,9,none⟩ (.bool m.sh)).setCell ⟨g,10,none⟩ (.int .i64 m.co)).setCell ⟨g,11,none⟩ (.int .i64 m.ou)).setCell ⟨g,12,none⟩ (.int .i64 m.sd)), ?_,hput,((((((((((((((Fr.refl (fun i=>i=g) u).setCell ⟨g,0,none⟩ (.int .i64 m.ax) (.inl rfl)).setCell ⟨g,1,none⟩ (.int .i64 m.ay) (.inl rfl)).setCell ⟨g,2,none⟩ (.int .i64 m.sx) (.inl rfl)).setCell ⟨g,3,none⟩ (.int .i64 m.sy) (.inl rfl)).setCell ⟨g,4,none⟩ (.int .i64 m.px) (.inl rfl)).setCell ⟨g,5,none⟩ (.int .i64 m.py) (.inl rfl)).setCell ⟨g,6,none⟩ (.int .i64 m.fc) (.inl rfl)).setCell ⟨g,7,none⟩ (.int .i64 m.hl) (.inl rfl)).setCell ⟨g,8,none⟩ (.int .i64 m.en) (.inl rfl)).setCell ⟨g,9,none⟩ (.bool m.sh) (.inl rfl)).setCell ⟨g,10,none⟩ (.int .i64 m.co) (.inl rfl)).setCell ⟨g,11,none⟩ (.int .i64 m.ou) (.inl rfl)).setCell ⟨g,12,none⟩ (.int .i64 m.sd) (.inl rfl))⟩;clear hput hb hh;unfold execOp;rw [ho];simp only [hx,hy];go_simp
theorem Vv {o:Oper} {ρ:Operand->Value} (ho:o.op=.alloc 56) (u:World):(execOp ρ o).run Tryz.prog u=.ok (.value (.pointer (some ⟨u.heap.size,0,none⟩))) (u.alloc (.cells (mcs zM) 56 (0,0))):=by
 unfold execOp;rw [ho];go_simp;try rfl
theorem Wf {o:Oper} {ρ:Operand->Value} {x y:Operand} {u:World} {g:Nat} {m:Sh} (ho:o.op=.store 122 x y) (hx:ρ x=.pointer (some ⟨g,0,none⟩)) (hy:ρ y=sv m) (hh:u.heap[g]?=some (.cells (scs zS) 122 (0,0))) :
  ∃ u',(execOp ρ o).run Tryz.prog u=.ok .skip u'/\u'.heap[g]?=some (.cells (scs m) 122 (0,0))/\Fr (fun i=>i=g) u u':=by
 have hb:Sb u g zS:=hh;obtain ⟨d0,d1,d2,d3,d4,d5,d6,d7,df⟩:=hb.cells;have hput:=hb.put m.no m.ow m.pw m.ax m.ay m.sx m.sy m.lf;refine ⟨((((((((u.setCell ⟨g,0,none⟩ (.int .i64 m.no)).setCell ⟨g,1,none⟩ (.int .i64 m.ow)).setCell ⟨g,2,none⟩ (.int .i64 m.pw)).setCell ⟨g,3,none⟩ (.int .i64 m.ax)).setCell ⟨g,4,none⟩ (.int .i64 m.ay)).setCell ⟨g,5,none⟩ (.int .i64 m.sx)).setCell ⟨g,6,none⟩ (.int .i64 m.sy)).setCell ⟨g,7,none⟩ (.int .i64 m.lf)), ?_,hput,(((((((((Fr.refl (fun i=>i=g) u).setCell ⟨g,0,none⟩ (.int .i64 m.no) (.inl rfl)).setCell ⟨g,1,none⟩ (.int .i64 m.ow) (.inl rfl)).setCell ⟨g,2,none⟩ (.int .i64 m.pw) (.inl rfl)).setCell ⟨g,3,none⟩ (.int .i64 m.ax) (.inl rfl)).setCell ⟨g,4,none⟩ (.int .i64 m.ay) (.inl rfl)).setCell ⟨g,5,none⟩ (.int .i64 m.sx) (.inl rfl)).setCell ⟨g,6,none⟩ (.int .i64 m.sy) (.inl rfl)).setCell ⟨g,7,none⟩ (.int .i64 m.lf) (.inl rfl))⟩;clear hput hb hh;unfold execOp;rw [ho];simp only [hx,hy];go_simp
theorem Wg {o:Oper} {ρ:Operand->Value} (ho:o.op=.alloc 122) (u:World):(execOp ρ o).run Tryz.prog u=.ok (.value (.pointer (some ⟨u.heap.size,0,none⟩))) (u.alloc (.cells (scs zS) 122 (0,0))):=by
 unfold execOp;rw [ho];go_simp;try rfl
theorem Wh {o:Oper} {ρ:Operand->Value} {x y:Operand} {u:World} {g:Nat} {m:Scr} (ho:o.op=.store 61 x y) (hx:ρ x=.pointer (some ⟨g,0,none⟩)) (hy:ρ y=cv m) (hh:u.heap[g]?=some (.cells (ccs zC) 61 (0,0))) :
  ∃ u',(execOp ρ o).run Tryz.prog u=.ok .skip u'/\u'.heap[g]?=some (.cells (ccs m) 61 (0,0))/\Fr (fun i=>i=g) u u':=by
 have hb:Cb u g zC:=hh;obtain ⟨d0,d1,d2,d3,df⟩:=hb.cells;have hput:=hb.put m.p m.h m.o m.k;refine ⟨((((u.setCell ⟨g,0,none⟩ (.int .i64 m.p)).setCell ⟨g,1,none⟩ (.int .i64 m.h)).setCell ⟨g,2,none⟩ (.int .i64 m.o)).setCell ⟨g,3,none⟩ (.int .i64 m.k)), ?_,hput,(((((Fr.refl (fun i=>i=g) u).setCell ⟨g,0,none⟩ (.int .i64 m.p) (.inl rfl)).setCell ⟨g,1,none⟩ (.int .i64 m.h) (.inl rfl)).setCell ⟨g,2,none⟩ (.int .i64 m.o) (.inl rfl)).setCell ⟨g,3,none⟩ (.int .i64 m.k) (.inl rfl))⟩;clear hput hb hh;unfold execOp;rw [ho];simp only [hx,hy];go_simp
theorem Wi {o:Oper} {ρ:Operand->Value} (ho:o.op=.alloc 61) (u:World):(execOp ρ o).run Tryz.prog u=.ok (.value (.pointer (some ⟨u.heap.size,0,none⟩))) (u.alloc (.cells (ccs zC) 61 (0,0))):=by
 unfold execOp;rw [ho];go_simp;try rfl
theorem Ae {o:Oper} {ρ:Operand->Value} {x y:Operand} {u:World} {g:Nat} {m:Pk} (ho:o.op=.store 124 x y) (hx:ρ x=.pointer (some ⟨g,0,none⟩)) (hy:ρ y=kv m) (hh:u.heap[g]?=some (.cells (kcs zK) 124 (0,0))) :
  ∃ u',(execOp ρ o).run Tryz.prog u=.ok .skip u'/\u'.heap[g]?=some (.cells (kcs m) 124 (0,0))/\Fr (fun i=>i=g) u u':=by
 have hb:Kb u g zK:=hh;obtain ⟨d0,d1,d2,df⟩:=hb.cells;have hput:=hb.put m.no m.sp m.kd;refine ⟨(((u.setCell ⟨g,0,none⟩ (.int .i64 m.no)).setCell ⟨g,1,none⟩ (.int .i64 m.sp)).setCell ⟨g,2,none⟩ (.int .i64 m.kd)), ?_,hput,((((Fr.refl (fun i=>i=g) u).setCell ⟨g,0,none⟩ (.int .i64 m.no) (.inl rfl)).setCell ⟨g,1,none⟩ (.int .i64 m.sp) (.inl rfl)).setCell ⟨g,2,none⟩ (.int .i64 m.kd) (.inl rfl))⟩;clear hput hb hh;unfold execOp;rw [ho];simp only [hx,hy];go_simp
theorem Af {o:Oper} {ρ:Operand->Value} (ho:o.op=.alloc 124) (u:World):(execOp ρ o).run Tryz.prog u=.ok (.value (.pointer (some ⟨u.heap.size,0,none⟩))) (u.alloc (.cells (kcs zK) 124 (0,0))):=by
 unfold execOp;rw [ho];go_simp;try rfl
end Go.Proofs.YthcjckgmdokmdaaGreatDoor
namespace Go.Proofs.YthcjckgmdokmdaaGreatDoor
open Go.RowKit
open Pu Gp Ap Vp Np Za Ka Ja Ea Ha Hg
set_option maxRecDepth 100000
end Go.Proofs.YthcjckgmdokmdaaGreatDoor
namespace Go.Proofs.YthcjckgmdokmdaaGreatDoor
open Go.RowKit
open Pu Gp Ap Vp Np Za Ka Ja Ea Ha Hi
set_option maxRecDepth 100000
theorem chkM0 {m:Mv}:Yi m=0 ↔ May m:=by
 unfold Yi;rw [<- mayB_iff];cases Yq m <;> simp
theorem chkS0 {s:Sh}:Yx s=0 ↔ Zd s=true:=by
 unfold Yx;cases Zd s <;> simp
theorem chkC0 {s:Scr}:Y8 s=0 ↔ Yt s:=⟨fun h=>Classical.byContradiction fun hc=>(by rw [Xf hc] at h; cases h),Xo⟩
theorem chkK0 {L:List Pk} {s:Int}:YH L s=0 ↔ Zf L s:=⟨fun h=>Classical.byContradiction fun hc=>(by rw [Vo hc] at h; cases h),U1⟩
def VD (p:Int) (w:Wd):Prop:=(w.ms.length:Int)=p/\(∀ i,i<w.ms.length->Yi (mm w.ms i)=0)/\(w.cs.length:Int)=p/\∀ i,i<w.cs.length->Y8 (sc w.cs i)=0
def VE (p nx:Int) (S:List Sh) (i:Nat):Prop:=(ss S i).ow<p/\(if i=0 then 0 else (ss S (i - 1)).no)<(ss S i).no/\(ss S i).no<nx
def Vw (p nx:Int) (S:List Sh):Prop:=S.length<=48/\(∀ i,i<S.length->Yx (ss S i)=0)/\∀ i,i<S.length->VE p nx S i
def U9 (k:Nat) (nx:Int) (Q:List Pk):Prop:=(∀ i,i<Q.length->(pk Q i).no<nx)/\YH Q (k:Int)=0
theorem Ag {p:Int} {w:Wd} (hp:0<=p):VD p w ↔ Seats p.toNat w:=by
 constructor
 ·rintro ⟨h1,h2,h3,h4⟩;exact ⟨by omega,fun i hi=>chkM0.1 (h2 i (by omega)),by omega,fun i hi=>chkC0.1 (h4 i (by omega))⟩
 ·rintro ⟨h1,h2,h3,h4⟩;exact ⟨by omega,fun i hi=>chkM0.2 (h2 i (by omega)),by omega,fun i hi=>chkC0.2 (h4 i (by omega))⟩
theorem Ah {p nx:Int} {S:List Sh}:Vw p nx S ↔ Flo S/\∀ s∈S,s.ow<p/\s.no<nx:=by
 constructor
 ·rintro ⟨h1,h2,h3⟩;refine ⟨⟨h1,fun i hi=>⟨chkS0.1 (h2 i hi),fun h0=>?_⟩⟩,fun s hs=>?_⟩
  ·have:=(h3 i hi).2.1;rwa [if_neg (by omega)] at this
  ·obtain ⟨i,hi,rfl⟩:=List.mem_iff_getElem.1 hs;have:=h3 i hi;unfold VE at this;rw [Xq hi] at this;exact ⟨this.1,this.2.2⟩
 ·rintro ⟨⟨h1,h2⟩,h3⟩;refine ⟨h1,fun i hi=>chkS0.2 (h2 i hi).1,fun i hi=>?_⟩;have h4:=h3 _ (List.getElem_mem hi);rw [<- Xq hi] at h4;refine ⟨h4.1, ?_,h4.2⟩;split
  ·have:=(maySB_iff.1 (h2 i hi).1).1;omega
  ·exact (h2 i hi).2 (by omega)
theorem Ai {k:Nat} {nx:Int} {Q:List Pk}:U9 k nx Q ↔ Zf Q (k:Int)/\∀ x∈Q,x.no<nx:=by
 constructor
 ·rintro ⟨h1,h2⟩;refine ⟨chkK0.1 h2,fun x hx=>?_⟩;obtain ⟨i,hi,rfl⟩:=List.mem_iff_getElem.1 hx;have:=h1 i hi;rwa [ZC hi] at this
 ·rintro ⟨h1,h2⟩;refine ⟨fun i hi=>?_,chkK0.2 h1⟩;rw [ZC hi];exact h2 _ (List.getElem_mem hi)
theorem Aj {p:Int} {E:Env} {w:Wd} (hp:0<=p):Zr p E w ↔ (0<=w.fr/\w.fr<=1099511627776)/\(1<=w.nx/\w.nx<=1099511627777)/\VD p w/\Vw p w.nx w.hs/\U9 E.sp.length w.nx w.ks:=by
 rw [Ag hp,Ah,Ai];have e:((p.toNat:Nat):Int)=p:=by omega
 constructor
 ·rintro ⟨⟨h1,h2,h3,h4,h5,h6,h7⟩,h8,h9⟩;rw [e] at h3;exact ⟨⟨h8,h9⟩,⟨h6,h7⟩,h1,⟨h2,h3⟩,h4,h5⟩
 ·rintro ⟨⟨h8,h9⟩,⟨h6,h7⟩,h1,⟨h2,h3⟩,h4,h5⟩;refine ⟨⟨h1,h2, ?_,h4,h5,h6,h7⟩,h8,h9⟩;rw [e];exact h3
end Go.Proofs.YthcjckgmdokmdaaGreatDoor
namespace Go.Proofs.YthcjckgmdokmdaaGreatDoor
open Go.RowKit
open Pu Gp Np Ka
set_option maxRecDepth 100000
theorem UA (n l h:Int) (w:World):Yb 174 #[.int .i64 n,.int .i64 l,.int .i64 h] w (.bool (amg n l h)):=by
 unfold amg;by_cases h1:l<=n
 ·go_enter Tryz.func174,Tryz.ntmps174;go_wp2_with fail;go_ret;exact ⟨by simp [h1],rfl⟩
 ·have e:decide (l<=n)=false:=by simpa using h1
  rw [e];go_enter Tryz.func174,Tryz.ntmps174;go_wp2_with fail;go_ret;exact ⟨rfl,rfl⟩
theorem Ak (n:Int) (w:World):Yb 201 #[.int .i64 n] w (.bool (amg n 1 3)):=by
 have H:=hid (fun w=>UA n 1 3 w);obtain ⟨b,eb⟩:∃ b,amg n 1 3=b:=⟨_,rfl⟩;rw [eb] at H ⊢;clear eb;go_enter Tryz.func201,Tryz.ntmps201;go_wp2_with fail;refine (H.o _).mono ?_;rintro e w2 ⟨he,hw⟩;rw [he,hw];clear he hw w2;go_wp2_with fail;go_ret;exact ⟨rfl,rfl⟩
theorem Al (n:Int) (w:World):Yb 200 #[.int .i64 n] w (.bool (amg n 1 1099511627776)):=by
 have H:=hid (fun w=>UA n 1 1099511627776 w);obtain ⟨b,eb⟩:∃ b,amg n 1 1099511627776=b:=⟨_,rfl⟩;rw [eb] at H ⊢;clear eb;go_enter Tryz.func200,Tryz.ntmps200;go_wp2_with fail;refine (H.o _).mono ?_;rintro e w2 ⟨he,hw⟩;rw [he,hw];clear he hw w2;go_wp2_with fail;go_ret;exact ⟨rfl,rfl⟩
def Jo (x:Pk) (s:Int):Bool:=amg x.no 1 1099511627776 && (amg x.sp 0 (s - 1) && amg x.kd 1 3)
theorem Am (x:Pk) (s:Int) (h0:0<=s) (h1:s<=16) (w:World):Ya 175 #[kv x,.int .i64 s] w (.bool (Jo x s)):=by
 unfold Jo;have p:=XX w x;have HS:=hid (aL w (.cells (kcs x) 124));obtain ⟨c0,c1,c2,cf⟩:=p.cells;have H0:=hid (fun w=>Al x.no w);have H1:=hid (fun w=>UA x.sp 0 (s - 1) w);have H2:=hid (fun w=>Ak x.kd w);obtain ⟨b0,e0⟩:∃ b,amg x.no 1 1099511627776=b:=⟨_,rfl⟩;obtain ⟨b1,e1⟩:∃ b,amg x.sp 0 (s - 1)=b:=⟨_,rfl⟩;obtain ⟨b2,e2⟩:∃ b,amg x.kd 1 3=b:=⟨_,rfl⟩;rw [e0] at H0 ⊢;rw [e1] at H1 ⊢;rw [e2] at H2 ⊢;clear e0 e1 e2 p;go_enter Tryz.func175,Tryz.ntmps175;go_wp2_with fail;refine (H0.o _).mono ?_;rintro e w2 ⟨he,hw⟩;rw [he,hw];clear he hw w2;cases b0 with
 | false =>
  go_wp2_with fail;go_ret;exact ⟨rfl,HS.o⟩
 | true =>
  go_wp2_with fail;refine (H1.o _).mono ?_;rintro e w2 ⟨he,hw⟩;rw [he,hw];clear he hw w2;cases b1 with
  | false =>
   go_wp2_with fail;go_ret;exact ⟨rfl,HS.o⟩
  | true =>
   go_wp2_with fail;refine (H2.o _).mono ?_;rintro e w2 ⟨he,hw⟩;rw [he,hw];clear he hw w2;go_wp2_with fail;go_ret;exact ⟨by simp,HS.o⟩
def Xj (L:List Pk) (y:Int):Bool:=L.any fun x=>x.sp == y
theorem An {L:List Pk} {k:Nat} {y:Int} (h:k<L.length):Xj (L.take (k+1)) y=(Xj (L.take k) y || (pk L k).sp == y):=by
 have:pk L k=L[k]:=by simp [pk,List.getD,h]
 rw [this];unfold Xj;rw [List.take_succ_eq_append_getElem h,List.any_append];simp
theorem lieI_iff {L:List Pk} {y:Int}:Xj L y=true ↔ ∃ i,i<L.length/\(pk L i).sp=y:=by
 unfold Xj;rw [List.any_eq_true];constructor
 ·rintro ⟨x,hx,h⟩;obtain ⟨i,hi,rfl⟩:=List.mem_iff_getElem.1 hx;refine ⟨i,hi, ?_⟩;have:pk L i=L[i]:=by simp [pk,List.getD,hi]
  rw [this]; simpa using h
 ·rintro ⟨i,hi,h⟩;have:pk L i=L[i]:=by simp [pk,List.getD,hi]
  rw [this] at h;exact ⟨L[i],List.getElem_mem hi,by simpa using h⟩
def Fk (w:World) (v:Value) (ao:Option Addr) (n cap:Nat):Prop:=∃ b,v=.func (.func 207) #[] #[.pointer (some ⟨b,0,none⟩)]/\w.cell? ⟨b,0,none⟩=some (.slice ao n cap)
theorem Ao (ao:Option Addr) (n cap:Nat) (w:World):Calls Tryz.prog 202 #[.slice ao n cap] w fun e w'=>∃ v,e=.returned v/\Fk w' v ao n cap/\Yc w w':=by
 have hmf:∀ (fn:Fn) (first cap:Array Value) (w:World),(Instr.makeFunc fn first cap).run Tryz.prog w=.ok (.func fn first cap) w:=fun _ _ _ _=>rfl;go_enter Tryz.func202,Tryz.ntmps202;go_wp2
 go_ret;refine ⟨_,rfl,⟨_,rfl, ?_⟩,aL w _⟩;rw [cell_of_row _ _ _ _ _ _ (heap_alloc_new w _)];rfl
theorem Aq (L:List Pk) (y:Int) (ao:Option Addr) (n cap b:Nat) (w:World) (hr:RdK w ao n L) (hc:w.cell? ⟨b,0,none⟩=some (.slice ao n cap)) :
  Ya 207 #[.int .i64 y,.pointer (some ⟨b,0,none⟩)] w (.bool (!Xj L y)):=by
 have HR:=hid hr;have HL:=hid hr.1;have hn47:n<=281474976710656:=hr.2.1;clear hr;go_enter Tryz.func207,Tryz.ntmps207;go_wp2_with fail;clear hc;go_loopw [8] (fun u wr=>∃ k:Nat,k<=n/\u=.int .i64 (k:Int)/\Hid (Xj (L.take k) y=false)/\Yc w wr) (fun u _=>n - (intOf u).toNat);case atStart=>exact ⟨0,by omega,rfl,hid rfl,Fr.refl _ _⟩
 case round =>
  obtain ⟨k,hk,rfl,HK,hs⟩:=hrel;by_cases hkn:k<n
  ·have hlt:(k:Int)<(n:Int):=by omega
   obtain ⟨B,o,rfl,hcc⟩:=(HR.o.sT hs).at (by omega);obtain ⟨c0,c1,c2⟩:=hcc k hkn;have HB:=hid (An (L:=L) (k:=k) (y:=y) (by have:=HL.o; omega));have HT:=hid (fun h=>lieI_iff.2 ⟨k,show k<L.length by have:=HL.o; omega,show (pk L k).sp=y from h⟩);obtain ⟨⟨xa,xb,xc⟩,ex⟩:∃ x,pk L k=x:=⟨_,rfl⟩;rw [ex] at c0 c1 c2 HB HT;have q0:=XX wr ⟨xa,xb,xc⟩;obtain ⟨d0,d1,d2,df⟩:=q0.cells;have HS1:=hid (hs.trans (aL wr (.cells (kcs ⟨xa,xb,xc⟩) 124)));simp only at c0 c1 c2 d0 d1 d2;clear hs hcc ex q0;by_cases hy:xb=y
   ·have HE:=hid (HT.o hy);have hy':(xb == y)=true:=by simpa using hy
    clear hy HT HB;go_wp2_with fail
    (first | rw [Exit.noGoto_ret] | skip)
    go_ret;exact ⟨by rw [HE.o]; rfl,HS1.o⟩
   ·have hy':(xb == y)=false:=by simpa using hy
    have HE:Hid (Xj (L.take (k+1)) y=false):=hid (by rw [HB.o,HK.o]; simpa using hy);clear hy HT HB HK;go_wp2_with fail;go_roundw;case rel=>exact ⟨k+1,by omega,by go_num,HE,HS1.o⟩
    case measure=>simp [intOf]; omega
  ·have hge:¬ (k:Int)<(n:Int):=by omega
   have HE:Hid (Xj L y=false):=hid (by
    have:=HK.o;rw [List.take_of_length_le (by have:=HL.o; omega)] at this;exact this)
   have HS1:=hid hs;clear hs HK;go_wp2_with fail;go_ret;exact ⟨by rw [HE.o]; rfl,HS1.o⟩
def UB (x:Pk) (L:List Pk):Bool:=!Xj L x.sp && (decide (L.length=0) || decide ((pk L (L.length - 1)).no<x.no))
theorem Ar (x:Pk) (L:List Pk) (ao:Option Addr) (n cap:Nat) (h8:n<=8) (w:World) (hr:RdK w ao n L):Ya 176 #[kv x,.slice ao n cap] w (.bool (UB x L)):=by
 have p:=XX w x;have HS0:=hid (aL w (.cells (kcs x) 124));have HR:=hid hr;have HU:Hid (UB x L=(!Xj L x.sp && (decide (n=0) || decide ((pk L (n - 1)).no<x.no)))):=hid (by unfold UB; rw [hr.1]);clear hr;go_enter Tryz.func176,Tryz.ntmps176;go_wp2_with fail;refine (Ao ao n cap _).mono ?_;rintro e w1 ⟨v,rfl,hf,h1⟩;have q:=p.sT h1;have HS1:=hid (HS0.o.trans h1);have HR1:=hid (HR.o.sT HS1.o);obtain ⟨b,rfl,hb⟩:=hf;have HF:=hid (fun (u:World) (hu:Yc w1 u)=>Aq L x.sp ao n cap b u (HR1.o.sT hu) ((hu.cell (World.block_lt_of_cell? w1 _ hb) (fun e=>e)).trans hb));clear h1 hb HS0 p;obtain ⟨c0,c1,c2,cf⟩:=q.cells;have k0:=kC c0;have k1:=kC c1;have hne:=Aft.here w1;obtain ⟨f,ef⟩:∃ f,(!Xj L x.sp)=f:=⟨_,rfl⟩;rw [ef] at HF HU;clear ef;go_wp2_with fail;clear c0 c1 c2 cf q;cases f with
 | false =>
  refine Yo (by kernel_rfl) (by kernel_rfl) ?_;repeat (go_big_quiet_step ((go_at_call 207; exact Calls.cl (HF.o _ (Aft.s _)))))
  refine wpQuiet_nil ?_;intro w2 h2;have HS2:=hid (HS1.o.trans h2);clear h2 HS1 HR1 HF k0 k1 hne;go_wp2_with fail;go_ret;exact ⟨by rw [HU.o]; rfl,HS2.o⟩
 | true =>
  by_cases hn:n=0
  ·subst hn;refine Yo (by kernel_rfl) (by kernel_rfl) ?_;repeat (go_big_quiet_step ((go_at_call 207; exact Calls.cl (HF.o _ (Aft.s _)))))
   refine wpQuiet_nil ?_;intro w2 h2;have HS2:=hid (HS1.o.trans h2);clear h2 HS1 HR1 HF k0 k1 hne;go_wp2_with fail;go_ret;exact ⟨by rw [HU.o]; rfl,HS2.o⟩
  ·obtain ⟨m,em⟩:∃ m:Nat,(n:Int) - 1=(m:Int):=⟨n - 1,by omega⟩;rw [em];have emn:n - 1=m:=by omega
   rw [emn] at HU;obtain ⟨B,o,rfl,hcc⟩:=HR1.o.at (by omega);obtain ⟨z0,_,_⟩:=hcc m (by omega);have k3:=kC z0;have hmn:(m:Int)<(n:Int):=by omega
   have hmd:decide ((m:Int)<0)=false:=by simp
   have HN:=hid (show decide (n=0)=false by simp [hn]);rw [HN.o] at HU;obtain ⟨z,ez⟩:∃ z,(pk L m).no=z:=⟨_,rfl⟩;rw [ez] at k3 HU;clear ez z0 hcc em emn hn;refine Yo (by kernel_rfl) (by kernel_rfl) ?_;repeat (go_big_quiet_step ((go_at_call 207; exact Calls.cl (HF.o _ (Aft.s _)))))
   refine wpQuiet_nil ?_;intro w2 h2;have HS2:=hid (HS1.o.trans h2);clear h2 HS1 HR1 HF k0 k1 k3 hne;go_wp2_with fail;go_ret;exact ⟨by rw [HU.o]; simp,HS2.o⟩
theorem Jp {L:List Pk} {k i:Nat} (h:i<k):pk (L.take k) i=pk L i:=by simp [pk,List.getD,h]
theorem As {L:List Pk} {s:Int} {k:Nat} (hk:k<L.length):Fit L s k ↔ Jo (pk L k) s=true/\UB (pk L k) (L.take k)=true:=by
 have hl:(L.take k).length=k:=by simp; omega
 unfold Jo UB Fit amg;rw [hl];simp only [Bool.and_eq_true,Bool.or_eq_true,decide_eq_true_eq,Bool.not_eq_true'];have e1:Xj (L.take k) (pk L k).sp=false ↔ ∀ i,i<k->(pk L i).sp≠(pk L k).sp:=by
  rw [<- Bool.not_eq_true,lieI_iff,hl];constructor
  ·intro h i hi he; exact h ⟨i,hi,by rw [Jp hi]; exact he⟩
  ·rintro h ⟨i,hi,he⟩; rw [Jp hi] at he; exact h i hi he
 rw [e1];constructor
 ·rintro ⟨h1,h2,h3,h4,h5⟩;refine ⟨⟨h1,⟨h3.1,by omega⟩,h4⟩,h5, ?_⟩;by_cases h0:k=0
  ·exact .inl h0
  ·exact .inr (by rw [Jp (by omega)]; exact h2 (by omega))
 ·rintro ⟨⟨h1,h3,h4⟩,h5,h2⟩;refine ⟨h1,fun h0=>?_,⟨h3.1,by omega⟩,h4,h5⟩;rcases h2 with h2 | h2
  ·omega
  ·rw [Jp (by omega)] at h2; exact h2
theorem RdK.take {w:World} {ao:Option Addr} {n k:Nat} {L:List Pk} (h:RdK w ao n L) (hk:k<=n):RdK w ao k (L.take k):=by
 obtain ⟨h1,h2,h3⟩:=h;refine ⟨by simp; omega,by omega, ?_⟩;by_cases h0:k=0
 ·exact .inl h0
 ·rcases h3 with h3 | ⟨B,o,e,hc⟩
  ·omega
  ·exact .inr ⟨B,o,e,fun i hi=>by rw [Jp hi]; exact hc i (by omega)⟩
theorem Au (L:List Pk) (s:Int) (ao:Option Addr) (n cap:Nat) (w:World) (hr:RdK w ao n L) (hcap:n<=cap) (h0:0<=s) (h1:s<=16) (h8:n<=8):Ya 139 #[.slice ao n cap,.int .i64 s] w (.int .i64 (YH L s)):=by
 have HH:=hid (And.intro h0 h1);have HR:=hid hr;have HL:=hid hr.1;have HCp:=hid hcap;have HW:=hid (fun w=>UA s 0 16 w);rw [show amg s 0 16=true by unfold amg; simp; omega] at HW;have h8':decide ((8:Int)<(n:Int))=false:=by simp; omega
 clear hr hcap h0 h1;go_enter Tryz.func139,Tryz.ntmps139;go_wp2_with fail;refine (HW.o _).mono ?_;rintro e w2 ⟨he,hw⟩;rw [he,hw];clear he hw w2 HW;go_wp2_with fail;go_loopw [17] (fun u wr=>∃ k:Nat,k<=n/\u=.int .i64 (k:Int)/\Hid (∀ i,i<k->Fit L s i)/\Yc w wr) (fun u _=>n - (intOf u).toNat);case atStart=>exact ⟨0,by omega,rfl,hid (fun i hi=>by omega),Fr.refl _ _⟩
 case round =>
  obtain ⟨k,hk,rfl,HF,hs⟩:=hrel;by_cases hkn:k<n
  ·have hlt:(k:Int)<(n:Int):=by omega
   obtain ⟨B,o,rfl,hc⟩:=(HR.o.sT hs).at (by omega);obtain ⟨c0,c1,c2⟩:=hc k hkn;have HS1:=hid (hs.trans (aL wr (.cells (kcs (pk L k)) 124)));have q0:=XX wr (pk L k);have HFit:=hid (As (L:=L) (s:=s) (k:=k) (by have:=HL.o; omega));have HNo:=hid (show ¬ Fit L s k->YH L s=100 from fun h=>Vo (fun hm=>h (hm.2.2 k (by have:=HL.o; omega))));obtain ⟨W,eW⟩:∃ W,wr.alloc (.cells (kcs (pk L k)) 124)=W:=⟨_,rfl⟩;obtain ⟨g,eg⟩:∃ g,wr.heap.size=g:=⟨_,rfl⟩;have q1:Kb W g (pk L k):=by rw [<- eW,<- eg]; exact q0
   rw [eW] at HS1;obtain ⟨x,ex⟩:∃ x,pk L k=x:=⟨_,rfl⟩;rw [ex] at c0 c1 c2 q1 eW HFit;have HM:=hid (fun u=>Am x s HH.o.1 HH.o.2 u);have HU:=hid (fun (u:World) (hu:Yc W u)=>Ar x (L.take k) (some ⟨B,o,none⟩) k cap (by omega) u ((((HR.o.sT HS1.o).take (k:=k) (by omega))).sT hu));have hsl:∀ u,(Instr.slice 31 (.slice (some ⟨B,o,none⟩) n cap) none (some (.int .i64 (k:Int))) none).run Tryz.prog u=.ok (.slice (some ⟨B,o,none⟩) k cap) u:=fun u=>TF u _ n cap (k:Int) (by omega) (by have:=HCp.o; omega);obtain ⟨b,eb⟩:∃ b,Jo x s=b:=⟨_,rfl⟩;obtain ⟨c,ec⟩:∃ b,UB x (L.take k)=b:=⟨_,rfl⟩;rw [eb,ec] at HFit;rw [eb] at HM;rw [ec] at HU;clear q0 hs hc ex eb ec;go_upto_region 6 with fail;clear eW eg c0 c1 c2;obtain ⟨e0,e1,e2,ef⟩:=q1.cells;have k0:=kC e0;have k1:=kC e1;have k2:=kC e2;have hne:=Aft.here W;clear e0 e1 e2 ef q1;cases b with
   | false =>
    have HE:=hid (HNo.o (fun h=>by have:=(HFit.o.1 h).1; cases this));refine Yo (by kernel_rfl) (by kernel_rfl) ?_;repeat (go_big_quiet_step ((go_at_call 175; exact Calls.cl (HM.o _))))
    refine wpQuiet_nil ?_;intro w2 h2;have HS2:=hid (HS1.o.trans h2);clear h2 HS1 hne k0 k1 k2 HFit HNo HM HU hsl;go_wp2_with fail
    (first | rw [Exit.noGoto_ret] | skip)
    go_ret;exact ⟨by rw [HE.o]; rfl,HS2.o⟩
   | true =>
    cases c with
    | false =>
     have HE:=hid (HNo.o (fun h=>by have:=(HFit.o.1 h).2; cases this));refine Yo (by kernel_rfl) (by kernel_rfl) ?_;repeat (go_big_quiet_step ((first | (go_at_call 175; exact Calls.cl (HM.o _)) | (go_at_call 176; exact Calls.cl (HU.o _ (Aft.s _))))))
     refine wpQuiet_nil ?_;intro w2 h2;have HS2:=hid (HS1.o.trans h2);clear h2 HS1 hne k0 k1 k2 HFit HNo HM HU hsl;go_wp2_with fail
     (first | rw [Exit.noGoto_ret] | skip)
     go_ret;exact ⟨by rw [HE.o]; rfl,HS2.o⟩
    | true =>
     have HE:=hid (show ∀ i,i<k+1->Fit L s i from fun i hi=>by
      by_cases e:i=k
      ·subst e; exact HFit.o.2 ⟨rfl,rfl⟩
      ·exact HF.o i (by omega))
     refine Yo (by kernel_rfl) (by kernel_rfl) ?_;repeat (go_big_quiet_step ((first | (go_at_call 175; exact Calls.cl (HM.o _)) | (go_at_call 176; exact Calls.cl (HU.o _ (Aft.s _))))))
     refine wpQuiet_nil ?_;intro w2 h2;have HS2:=hid (HS1.o.trans h2);clear h2 HS1 hne k0 k1 k2 HFit HNo HM HU hsl;go_wp2_with fail;go_roundw;case rel=>exact ⟨k+1,by omega,by go_num,HE,HS2.o⟩
     case measure=>simp [intOf]; omega
  ·have hge:¬ (k:Int)<(n:Int):=by omega
   have HE:Hid (YH L s=0):=hid (U1 ⟨HH.o,by rw [HL.o]; exact h8,fun i hi=>HF.o i (by have:=HL.o; omega)⟩);have HS1:=hid hs;clear hs;go_wp2_with fail;go_ret;exact ⟨by rw [HE.o]; rfl,HS1.o⟩
theorem Av (L:List Pk) (s:Int) (ao:Option Addr) (n cap:Nat) (w:World) (hr:RdK w ao n L) (hcap:n<=cap):Ya 139 #[.slice ao n cap,.int .i64 s] w (.int .i64 (YH L s)):=by
 by_cases hs:0<=s/\s<=16
 ·by_cases h8:n<=8
  ·exact Au L s ao n cap w hr hcap hs.1 hs.2 h8
  ·have HE:Hid (YH L s=100):=hid (Vo (fun h=>by have:=h.2.1; have:=hr.1; omega));have h8':decide ((8:Int)<(n:Int))=true:=by simp; omega
   have HW:=hid (fun w=>UA s 0 16 w);rw [show amg s 0 16=true by unfold amg; simp; omega] at HW;clear hr hs hcap h8;go_enter Tryz.func139,Tryz.ntmps139;go_wp2_with fail;refine (HW.o _).mono ?_;rintro e w2 ⟨he,hw⟩;rw [he,hw];clear he hw w2 HW;go_wp2_with fail;go_ret;exact ⟨by rw [HE.o]; rfl,Fr.refl _ _⟩
 ·have HE:Hid (YH L s=100):=hid (Vo (fun h=>hs h.1));have HW:=hid (fun w=>UA s 0 16 w);rw [show amg s 0 16=false by unfold amg; rw [Bool.and_eq_false_iff]; simp only [decide_eq_false_iff_not]; omega] at HW;clear hr hs hcap;go_enter Tryz.func139,Tryz.ntmps139;go_wp2_with fail;refine (HW.o _).mono ?_;rintro e w2 ⟨he,hw⟩;rw [he,hw];clear he hw w2 HW;go_wp2_with fail;go_ret;exact ⟨by rw [HE.o]; rfl,Fr.refl _ _⟩
theorem Mb.hl {w:World} {g:Nat} {m:Mv} (h:Mb w g m) (x:Int):Mb (w.setCell ⟨g,7,none⟩ (.int .i64 x)) g { m with hl:=x }:=(heap_setCell_same w g 7 _ _ (.int .i64 x) h).trans (by kernel_rfl)
theorem Mb.en {w:World} {g:Nat} {m:Mv} (h:Mb w g m) (x:Int):Mb (w.setCell ⟨g,8,none⟩ (.int .i64 x)) g { m with en:=x }:=(heap_setCell_same w g 8 _ _ (.int .i64 x) h).trans (by kernel_rfl)
end Go.Proofs.YthcjckgmdokmdaaGreatDoor
set_option maxRecDepth 100000
namespace Go.Proofs.YthcjckgmdokmdaaGreatDoor.Ygp
open Pu Gp Ap Vp Np Za Ka Ja
/-! pairs -/
def inr {n:Nat} (a:Fin n) (q:List (Fin n)):List (Fin n × Fin n):=q.flatMap fun b=>if a.1<b.1 then [(a,b)] else []
def met (L:List Mv) (l:List (Fin L.length × Fin L.length)):List (Int × Int):=l.flatMap fun p=>if ov (mm L p.1.1) (mm L p.2.1).ax (mm L p.2.1).ay 1280 then [((p.1.1:Int),(p.2.1:Int))] else []
end Go.Proofs.YthcjckgmdokmdaaGreatDoor.Ygp
namespace Go.Proofs.YthcjckgmdokmdaaGreatDoor
open Go.RowKit
open Pu Gp Np Ka
set_option maxRecDepth 100000
def VF (L:List Pk) (s:Int) (k:Nat):Bool:=decide ((pk L k).no<1) || decide (1099511627776<(pk L k).no) || (decide (0<k) && decide ((pk L k).no<=(pk L (k - 1)).no)) || decide ((pk L k).sp<0) || decide (s<=(pk L k).sp) || decide ((pk L k).kd<1) || decide (3<(pk L k).kd)
theorem Aw {L:List Pk} {s:Int} {k:Nat} (h:VF L s k=false) (hs:∀ q,q<k->(pk L q).sp≠(pk L k).sp):Fit L s k:=by
 unfold VF at h;simp only [Bool.or_eq_false_iff,Bool.and_eq_false_iff,decide_eq_false_iff_not] at h;exact ⟨by omega,fun h0=>by omega,by omega,by omega,hs⟩
theorem Ax {L:List Pk} {s:Int} {k:Nat} (h:VF L s k=true):¬ Fit L s k:=by
 rintro ⟨h1,h2,h3,h4,_⟩;unfold VF at h;simp only [Bool.or_eq_true,Bool.and_eq_true,decide_eq_true_eq] at h;have:=h2;omega
theorem RdK.get {w:World} {B o n:Nat} {L:List Pk} (h:RdK w (some ⟨B,o,none⟩) n L) {i:Nat} (hi:i<n):w.cell? ⟨B,o+i*3,none⟩=some (.int .i64 (pk L i).no)/\w.cell? ⟨B,o+i*3+1,none⟩=some (.int .i64 (pk L i).sp)/\w.cell? ⟨B,o+i*3+2,none⟩=some (.int .i64 (pk L i).kd):=by
 obtain ⟨B',o',e,hc⟩:=h.at (by omega);cases e;exact hc i hi
theorem Ay (a p sp kd s:Int) (k:Nat) (r:Bool) (hr:(decide (a<1) || decide (1099511627776<a) || (decide (0<k) && decide (a<=p)) || decide (sp<0) || decide (s<=sp) || decide (kd<1) || decide (3<kd))=r) :
  ((a<1)/\decide (a<1)=true/\r=true) \/
  ((¬ a<1)/\decide (a<1)=false/\(1099511627776<a)/\decide (1099511627776<a)=true/\r=true) \/
  ((¬ a<1)/\decide (a<1)=false/\(¬ 1099511627776<a)/\decide (1099511627776<a)=false/\(0:Int)<(k:Int)/\decide ((0:Int)<(k:Int))=true/\decide (0<k)=true/\(a<=p)/\decide (a<=p)=true/\r=true) \/
  ((¬ a<1)/\decide (a<1)=false/\(¬ 1099511627776<a)/\decide (1099511627776<a)=false/\(0:Int)<(k:Int)/\decide ((0:Int)<(k:Int))=true/\decide (0<k)=true/\(¬ a<=p)/\decide (a<=p)=false/\(sp<0)/\decide (sp<0)=true/\r=true) \/
  ((¬ a<1)/\decide (a<1)=false/\(¬ 1099511627776<a)/\decide (1099511627776<a)=false/\(0:Int)<(k:Int)/\decide ((0:Int)<(k:Int))=true/\decide (0<k)=true/\(¬ a<=p)/\decide (a<=p)=false/\(¬ sp<0)/\decide (sp<0)=false/\(s<=sp)/\decide (s<=sp)=true/\r=true) \/
  ((¬ a<1)/\decide (a<1)=false/\(¬ 1099511627776<a)/\decide (1099511627776<a)=false/\(0:Int)<(k:Int)/\decide ((0:Int)<(k:Int))=true/\decide (0<k)=true/\(¬ a<=p)/\decide (a<=p)=false/\(¬ sp<0)/\decide (sp<0)=false/\(¬ s<=sp)/\decide (s<=sp)=false/\(kd<1)/\decide (kd<1)=true/\r=true) \/
  ((¬ a<1)/\decide (a<1)=false/\(¬ 1099511627776<a)/\decide (1099511627776<a)=false/\(0:Int)<(k:Int)/\decide ((0:Int)<(k:Int))=true/\decide (0<k)=true/\(¬ a<=p)/\decide (a<=p)=false/\(¬ sp<0)/\decide (sp<0)=false/\(¬ s<=sp)/\decide (s<=sp)=false/\(¬ kd<1)/\decide (kd<1)=false/\(3<kd)/\decide (3<kd)=true/\r=true) \/
  ((¬ a<1)/\decide (a<1)=false/\(¬ 1099511627776<a)/\decide (1099511627776<a)=false/\(0:Int)<(k:Int)/\decide ((0:Int)<(k:Int))=true/\decide (0<k)=true/\(¬ a<=p)/\decide (a<=p)=false/\(¬ sp<0)/\decide (sp<0)=false/\(¬ s<=sp)/\decide (s<=sp)=false/\(¬ kd<1)/\decide (kd<1)=false/\(¬ 3<kd)/\decide (3<kd)=false/\r=false) \/
  ((¬ a<1)/\decide (a<1)=false/\(¬ 1099511627776<a)/\decide (1099511627776<a)=false/\(¬ (0:Int)<(k:Int))/\decide ((0:Int)<(k:Int))=false/\decide (0<k)=false/\(sp<0)/\decide (sp<0)=true/\r=true) \/
  ((¬ a<1)/\decide (a<1)=false/\(¬ 1099511627776<a)/\decide (1099511627776<a)=false/\(¬ (0:Int)<(k:Int))/\decide ((0:Int)<(k:Int))=false/\decide (0<k)=false/\(¬ sp<0)/\decide (sp<0)=false/\(s<=sp)/\decide (s<=sp)=true/\r=true) \/
  ((¬ a<1)/\decide (a<1)=false/\(¬ 1099511627776<a)/\decide (1099511627776<a)=false/\(¬ (0:Int)<(k:Int))/\decide ((0:Int)<(k:Int))=false/\decide (0<k)=false/\(¬ sp<0)/\decide (sp<0)=false/\(¬ s<=sp)/\decide (s<=sp)=false/\(kd<1)/\decide (kd<1)=true/\r=true) \/
  ((¬ a<1)/\decide (a<1)=false/\(¬ 1099511627776<a)/\decide (1099511627776<a)=false/\(¬ (0:Int)<(k:Int))/\decide ((0:Int)<(k:Int))=false/\decide (0<k)=false/\(¬ sp<0)/\decide (sp<0)=false/\(¬ s<=sp)/\decide (s<=sp)=false/\(¬ kd<1)/\decide (kd<1)=false/\(3<kd)/\decide (3<kd)=true/\r=true) \/
  ((¬ a<1)/\decide (a<1)=false/\(¬ 1099511627776<a)/\decide (1099511627776<a)=false/\(¬ (0:Int)<(k:Int))/\decide ((0:Int)<(k:Int))=false/\decide (0<k)=false/\(¬ sp<0)/\decide (sp<0)=false/\(¬ s<=sp)/\decide (s<=sp)=false/\(¬ kd<1)/\decide (kd<1)=false/\(¬ 3<kd)/\decide (3<kd)=false/\r=false):=by
 have e:decide ((0:Int)<(k:Int))=decide (0<k):=by simp
 rw [e];by_cases h1:a<1
 ·simp [h1] at hr; exact .inl ⟨h1,by simp [h1],hr⟩
 right
 by_cases h2:1099511627776<a
 ·simp [h2] at hr; exact .inl ⟨h1,by simp [h1],h2,by simp [h2],hr⟩
 right
 by_cases hg:0<k
 ·have hg':(0:Int)<(k:Int):=by omega
  by_cases h3:a<=p
  ·simp [hg,h3] at hr; exact .inl ⟨h1,by simp [h1],h2,by simp [h2],hg',by simp [hg],by simp [hg],h3,by simp [h3],hr⟩
  right
  by_cases h4:sp<0
  ·simp [h4] at hr; exact .inl ⟨h1,by simp [h1],h2,by simp [h2],hg',by simp [hg],by simp [hg],h3,by simp [h3],h4,by simp [h4],hr⟩
  right
  by_cases h5:s<=sp
  ·simp [h5] at hr; exact .inl ⟨h1,by simp [h1],h2,by simp [h2],hg',by simp [hg],by simp [hg],h3,by simp [h3],h4,by simp [h4],h5,by simp [h5],hr⟩
  right
  by_cases h6:kd<1
  ·simp [h6] at hr; exact .inl ⟨h1,by simp [h1],h2,by simp [h2],hg',by simp [hg],by simp [hg],h3,by simp [h3],h4,by simp [h4],h5,by simp [h5],h6,by simp [h6],hr⟩
  right
  by_cases h7:3<kd
  ·simp [h7] at hr; exact .inl ⟨h1,by simp [h1],h2,by simp [h2],hg',by simp [hg],by simp [hg],h3,by simp [h3],h4,by simp [h4],h5,by simp [h5],h6,by simp [h6],h7,by simp [h7],hr⟩
  right
  simp only [h1,h2,h3,h4,h5,h6,h7,decide_false,Bool.or_false,Bool.and_false] at hr;exact .inl ⟨h1,by simp [h1],h2,by simp [h2],hg',by simp [hg],by simp [hg],h3,by simp [h3],h4,by simp [h4],h5,by simp [h5],h6,by simp [h6],h7,by simp [h7],hr.symm⟩
 ·have hg':¬ (0:Int)<(k:Int):=by omega
  right; right; right; right; right; right
  by_cases h4:sp<0
  ·simp [h4] at hr; exact .inl ⟨h1,by simp [h1],h2,by simp [h2],hg',by simp [hg],by simp [hg],h4,by simp [h4],hr⟩
  right
  by_cases h5:s<=sp
  ·simp [h5] at hr; exact .inl ⟨h1,by simp [h1],h2,by simp [h2],hg',by simp [hg],by simp [hg],h4,by simp [h4],h5,by simp [h5],hr⟩
  right
  by_cases h6:kd<1
  ·simp [h6] at hr; exact .inl ⟨h1,by simp [h1],h2,by simp [h2],hg',by simp [hg],by simp [hg],h4,by simp [h4],h5,by simp [h5],h6,by simp [h6],hr⟩
  right
  by_cases h7:3<kd
  ·simp [h7] at hr; exact .inl ⟨h1,by simp [h1],h2,by simp [h2],hg',by simp [hg],by simp [hg],h4,by simp [h4],h5,by simp [h5],h6,by simp [h6],h7,by simp [h7],hr⟩
  right
  simp only [h1,h2,hg,h4,h5,h6,h7,decide_false,Bool.or_false,Bool.false_and] at hr;exact ⟨h1,by simp [h1],h2,by simp [h2],hg',by simp [hg],by simp [hg],h4,by simp [h4],h5,by simp [h5],h6,by simp [h6],h7,by simp [h7],hr.symm⟩
theorem Az (L:List Pk) (s:Int) (ao:Option Addr) (n cap:Nat) (w:World) (hr:RdK w ao n L) (h0:¬ s<0) (h1:decide (16<s)=false) (h8:decide ((8:Int)<(n:Int))=false):Ya 50 #[.slice ao n cap,.int .i64 s] w (.int .i64 (YH L s)):=by
 have HN:=hid (show (0<=s/\s<=16)/\n<=8 by simp at h1 h8; omega);have HL:=hid hr.1;go_enter Tryz.func50,Tryz.ntmps50;go_wp2_with fail;clear h0 h1 h8;go_loopw [5] (fun u wr=>∃ k:Nat,k<=n/\u=.int .i64 (k:Int)/\Hid (∀ i,i<k->Fit L s i)/\Yc w wr) (fun u _=>n - (intOf u).toNat);case atStart=>exact ⟨0,by omega,rfl,hid (fun i hi=>by omega),Fr.refl _ _⟩
 case round =>
  obtain ⟨k,hk,rfl,HF,hs⟩:=hrel;by_cases hkn:k<n
  ·have hlt:(k:Int)<(n:Int):=by omega
   obtain ⟨B,o,rfl,hc⟩:=(hr.sT hs).at (by omega);have HC:=hid hc;obtain ⟨c0,c1,c2⟩:=hc k hkn;have HS1:=hid (hs.trans (aL wr (.cells (kcs (pk L k)) 124)));have q0:=XX wr (pk L k);have A0:=aL wr (.cells (kcs (pk L k)) 124);have on:∀ {p:Addr} {x:Value},wr.cell? p=some x->(JO wr (pk L k)).cell? p=some x:=fun hp=>(A0.cell (World.block_lt_of_cell? wr _ hp) (fun e=>e)).trans hp;have f0:0<k->(JO wr (pk L k)).cell? ⟨B,o+(k - 1)*3,none⟩=some (.int .i64 (pk L (k - 1)).no):=fun h=>on (hc (k - 1) (by omega)).1;have HR0:=hid hr;have hcs:=Ay (pk L k).no (pk L (k - 1)).no (pk L k).sp (pk L k).kd s k (VF L s k) rfl;have HBad:=hid (show VF L s k=true->YH L s=100 from fun h=>Vo (fun hm=>Ax h (hm.2.2 k (by rw [HL.o]; exact hkn))));have HGood:=hid (show VF L s k=false->∀ q,q<k->(pk L q).sp=(pk L k).sp->YH L s=100 from fun _ q hq he=>Vo (fun hm=>(hm.2.2 k (by rw [HL.o]; exact hkn)).2.2.2.2 q hq he));have HFit:=hid (fun h hq=>Aw (L:=L) (s:=s) (k:=k) h hq);obtain ⟨W,eW⟩:∃ W,wr.alloc (.cells (kcs (pk L k)) 124)=W:=⟨_,rfl⟩;obtain ⟨g,eg⟩:∃ g,wr.heap.size=g:=⟨_,rfl⟩;have q1:Kb W g (pk L k):=by rw [<- eW,<- eg]; exact q0
   have f1:0<k->W.cell? ⟨B,o+(k - 1)*3,none⟩=some (.int .i64 (pk L (k - 1)).no):=by rw [<- eW]; exact f0
   rw [eW] at HS1;clear on f0 q0 hr hs hc A0 HC;obtain ⟨x,ex⟩:∃ x,pk L k=x:=⟨_,rfl⟩;obtain ⟨pv,ep⟩:∃ x,(pk L (k - 1)).no=x:=⟨_,rfl⟩;obtain ⟨bad,eb⟩:∃ b,VF L s k=b:=⟨_,rfl⟩;have HX:=hid ex;rw [ex] at c0 c1 c2 q1 hcs eW HGood;rw [ep] at hcs f1;rw [eb] at hcs HBad HGood HFit;clear ex ep eb;go_upto_region 7 with fail;clear eW eg;obtain ⟨e0,e1,e2,ef⟩:=q1.cells;have k0:=kC e0;have k1:=kC e1;have k2:=kC e2;have hne:=Aft.here W;clear e0 e1 e2 ef c0 c1 c2;rcases hcs with ⟨h1,d1,rfl⟩ | ⟨h1,d1,h2,d2,rfl⟩ | ⟨h1,d1,h2,d2,hg,dg,dg2,h3,d3,rfl⟩ | ⟨h1,d1,h2,d2,hg,dg,dg2,h3,d3,h4,d4,rfl⟩ | ⟨h1,d1,h2,d2,hg,dg,dg2,h3,d3,h4,d4,h5,d5,rfl⟩ | ⟨h1,d1,h2,d2,hg,dg,dg2,h3,d3,h4,d4,h5,d5,h6,d6,rfl⟩ | ⟨h1,d1,h2,d2,hg,dg,dg2,h3,d3,h4,d4,h5,d5,h6,d6,h7,d7,rfl⟩ | ⟨h1,d1,h2,d2,hg,dg,dg2,h3,d3,h4,d4,h5,d5,h6,d6,h7,d7,rfl⟩ | ⟨h1,d1,h2,d2,hg,dg,dg2,h4,d4,rfl⟩ | ⟨h1,d1,h2,d2,hg,dg,dg2,h4,d4,h5,d5,rfl⟩ | ⟨h1,d1,h2,d2,hg,dg,dg2,h4,d4,h5,d5,h6,d6,rfl⟩ | ⟨h1,d1,h2,d2,hg,dg,dg2,h4,d4,h5,d5,h6,d6,h7,d7,rfl⟩ | ⟨h1,d1,h2,d2,hg,dg,dg2,h4,d4,h5,d5,h6,d6,h7,d7,rfl⟩
   ·have HB:=hid (HBad.o rfl);clear HBad HGood;refine Yo (by kernel_rfl) (by kernel_rfl) ?_;repeat (go_big_quiet_step (fail))
    refine wpQuiet_nil ?_;intro w2 h2;have HS2:=hid (HS1.o.trans h2);clear h2 HS1 hne k0 k1 k2 HFit q1 f1;go_wp2_with fail
    (first | rw [Exit.noGoto_ret] | skip)
    go_ret;exact ⟨by rw [HB.o]; rfl,HS2.o⟩
   ·have HB:=hid (HBad.o rfl);clear HBad HGood;refine Yo (by kernel_rfl) (by kernel_rfl) ?_;repeat (go_big_quiet_step (fail))
    refine wpQuiet_nil ?_;intro w2 h2;have HS2:=hid (HS1.o.trans h2);clear h2 HS1 hne k0 k1 k2 HFit q1 f1;go_wp2_with fail
    (first | rw [Exit.noGoto_ret] | skip)
    go_ret;exact ⟨by rw [HB.o]; rfl,HS2.o⟩
   ·have k3:=kC (f1 (by omega));have hk8:k<8:=by have:=HN.o; omega
    have HB:=hid (HBad.o rfl);clear HBad HGood;refine Yo (by kernel_rfl) (by kernel_rfl) ?_;repeat (go_big_quiet_step (fail))
    refine wpQuiet_nil ?_;intro w2 h2;have HS2:=hid (HS1.o.trans h2);clear h2 HS1 hne k0 k1 k2 HFit q1 f1;go_wp2_with fail
    (first | rw [Exit.noGoto_ret] | skip)
    go_ret;exact ⟨by rw [HB.o]; rfl,HS2.o⟩
   ·have k3:=kC (f1 (by omega));have hk8:k<8:=by have:=HN.o; omega
    have HB:=hid (HBad.o rfl);clear HBad HGood;refine Yo (by kernel_rfl) (by kernel_rfl) ?_;repeat (go_big_quiet_step (fail))
    refine wpQuiet_nil ?_;intro w2 h2;have HS2:=hid (HS1.o.trans h2);clear h2 HS1 hne k0 k1 k2 HFit q1 f1;go_wp2_with fail
    (first | rw [Exit.noGoto_ret] | skip)
    go_ret;exact ⟨by rw [HB.o]; rfl,HS2.o⟩
   ·have k3:=kC (f1 (by omega));have hk8:k<8:=by have:=HN.o; omega
    have HB:=hid (HBad.o rfl);clear HBad HGood;refine Yo (by kernel_rfl) (by kernel_rfl) ?_;repeat (go_big_quiet_step (fail))
    refine wpQuiet_nil ?_;intro w2 h2;have HS2:=hid (HS1.o.trans h2);clear h2 HS1 hne k0 k1 k2 HFit q1 f1;go_wp2_with fail
    (first | rw [Exit.noGoto_ret] | skip)
    go_ret;exact ⟨by rw [HB.o]; rfl,HS2.o⟩
   ·have k3:=kC (f1 (by omega));have hk8:k<8:=by have:=HN.o; omega
    have HB:=hid (HBad.o rfl);clear HBad HGood;refine Yo (by kernel_rfl) (by kernel_rfl) ?_;repeat (go_big_quiet_step (fail))
    refine wpQuiet_nil ?_;intro w2 h2;have HS2:=hid (HS1.o.trans h2);clear h2 HS1 hne k0 k1 k2 HFit q1 f1;go_wp2_with fail
    (first | rw [Exit.noGoto_ret] | skip)
    go_ret;exact ⟨by rw [HB.o]; rfl,HS2.o⟩
   ·have k3:=kC (f1 (by omega));have hk8:k<8:=by have:=HN.o; omega
    have HB:=hid (HBad.o rfl);clear HBad HGood;refine Yo (by kernel_rfl) (by kernel_rfl) ?_;repeat (go_big_quiet_step (fail))
    refine wpQuiet_nil ?_;intro w2 h2;have HS2:=hid (HS1.o.trans h2);clear h2 HS1 hne k0 k1 k2 HFit q1 f1;go_wp2_with fail
    (first | rw [Exit.noGoto_ret] | skip)
    go_ret;exact ⟨by rw [HB.o]; rfl,HS2.o⟩
   ·have k3:=kC (f1 (by omega));have hk8:k<8:=by have:=HN.o; omega
    have HG2:=hid (HGood.o rfl);have HF2:=hid (HFit.o rfl);clear HBad HGood HFit;refine Yo (by kernel_rfl) (by kernel_rfl) ?_;repeat (go_big_quiet_step (fail))
    refine wpQuiet_nil ?_;intro w2 h2;have q2:=q1.sT h2;have HS2:=hid (HS1.o.trans h2);clear h2 HS1 hne k0 k1 k2 q1 f1;go_wp2_with fail;go_loopw [7] (fun u wr=>∃ q:Nat,q<=k/\u=.int .i64 (q:Int)/\Hid (∀ j,j<q->(pk L j).sp≠x.sp)/\Kb wr g x/\Yc w wr) (fun u _=>k - (intOf u).toNat);case atStart=>exact ⟨0,by omega,rfl,hid (fun i hi=>by omega),q2,HS2.o⟩
    case round =>
     clear q2 HS2;obtain ⟨q,hq,rfl,HQ,q3,hs3⟩:=hrel;have HS3:=hid hs3;clear hs3;by_cases hqk:q<k
     ·have hlt2:(q:Int)<(k:Int):=by omega
      obtain ⟨_,z1,_⟩:=(HR0.o.sT HS3.o).get (i:=q) (by omega);obtain ⟨e0,e1,e2,ef⟩:=q3.cells;have HEq:=hid (fun h=>HG2.o q hqk h);have HNe:=hid (show (pk L q).sp≠x.sp->∀ j,j<q+1->(pk L j).sp≠x.sp from fun h j hj=>by
       by_cases e:j=q
       ·subst e; exact h
       ·exact HQ.o j (by omega))
      obtain ⟨y,ey⟩:∃ y,(pk L q).sp=y:=⟨_,rfl⟩;obtain ⟨t,et⟩:∃ y,x.sp=y:=⟨_,rfl⟩;rw [ey] at z1 HEq HNe;rw [et] at e1 HEq;have k1:=kC z1;have k2:=kC e1;have hne:=Aft.here wr;clear z1 e0 e1 e2 ef ey HQ;by_cases hyt:y=t
      ·have hyt':(y == t)=true:=by simpa using hyt
       have HE:=hid (HEq.o hyt);clear hyt HEq HNe et;go_wp2_with fail;refine Yo (by kernel_rfl) (by kernel_rfl) ?_;repeat (go_big_quiet_step (fail))
       refine wpQuiet_nil ?_;intro w4 h4;have HS4:=hid (HS3.o.trans h4);clear h4 HS3 hne k1 k2;go_wp2_with fail
       (first | rw [Exit.noGoto_ret] | skip)
       go_ret;exact ⟨by rw [HE.o]; rfl,HS4.o⟩
      ·have hyt':(y == t)=false:=by simpa using hyt
       have HE:=hid (HNe.o (by rw [et]; exact hyt));clear hyt HEq HNe et;go_wp2_with fail;refine Yo (by kernel_rfl) (by kernel_rfl) ?_;repeat (go_big_quiet_step (fail))
       refine wpQuiet_nil ?_;intro w4 h4;have HS4:=hid (HS3.o.trans h4);have HQ4:=hid (q3.sT h4);clear h4 HS3 hne k1 k2 q3;go_wp2_with fail;go_roundw;case rel=>exact ⟨q+1,by omega,by go_num,HE,HQ4.o,HS4.o⟩
       case measure=>simp [intOf]; omega
     ·have hge2:¬ (q:Int)<(k:Int):=by omega
      have HE:=hid (show ∀ i,i<k+1->Fit L s i from fun i hi=>by
       by_cases e:i=k
       ·subst e; exact HF2.o (fun j hj=>HX.o ▸ HQ.o j (by omega))
       ·exact HF.o i (by omega))
      clear hqk hq q3 HF HQ;go_wp2_with fail;go_roundw;case rel=>exact ⟨k+1,by omega,by go_num,HE,HS3.o⟩
      case measure=>simp [intOf]; omega
   ·have HB:=hid (HBad.o rfl);clear HBad HGood;refine Yo (by kernel_rfl) (by kernel_rfl) ?_;repeat (go_big_quiet_step (fail))
    refine wpQuiet_nil ?_;intro w2 h2;have HS2:=hid (HS1.o.trans h2);clear h2 HS1 hne k0 k1 k2 HFit q1 f1;go_wp2_with fail
    (first | rw [Exit.noGoto_ret] | skip)
    go_ret;exact ⟨by rw [HB.o]; rfl,HS2.o⟩
   ·have HB:=hid (HBad.o rfl);clear HBad HGood;refine Yo (by kernel_rfl) (by kernel_rfl) ?_;repeat (go_big_quiet_step (fail))
    refine wpQuiet_nil ?_;intro w2 h2;have HS2:=hid (HS1.o.trans h2);clear h2 HS1 hne k0 k1 k2 HFit q1 f1;go_wp2_with fail
    (first | rw [Exit.noGoto_ret] | skip)
    go_ret;exact ⟨by rw [HB.o]; rfl,HS2.o⟩
   ·have HB:=hid (HBad.o rfl);clear HBad HGood;refine Yo (by kernel_rfl) (by kernel_rfl) ?_;repeat (go_big_quiet_step (fail))
    refine wpQuiet_nil ?_;intro w2 h2;have HS2:=hid (HS1.o.trans h2);clear h2 HS1 hne k0 k1 k2 HFit q1 f1;go_wp2_with fail
    (first | rw [Exit.noGoto_ret] | skip)
    go_ret;exact ⟨by rw [HB.o]; rfl,HS2.o⟩
   ·have HB:=hid (HBad.o rfl);clear HBad HGood;refine Yo (by kernel_rfl) (by kernel_rfl) ?_;repeat (go_big_quiet_step (fail))
    refine wpQuiet_nil ?_;intro w2 h2;have HS2:=hid (HS1.o.trans h2);clear h2 HS1 hne k0 k1 k2 HFit q1 f1;go_wp2_with fail
    (first | rw [Exit.noGoto_ret] | skip)
    go_ret;exact ⟨by rw [HB.o]; rfl,HS2.o⟩
   ·have HG2:=hid (HGood.o rfl);have HF2:=hid (HFit.o rfl);clear HBad HGood HFit;refine Yo (by kernel_rfl) (by kernel_rfl) ?_;repeat (go_big_quiet_step (fail))
    refine wpQuiet_nil ?_;intro w2 h2;have q2:=q1.sT h2;have HS2:=hid (HS1.o.trans h2);clear h2 HS1 hne k0 k1 k2 q1 f1;go_wp2_with fail;go_loopw [7] (fun u wr=>∃ q:Nat,q<=k/\u=.int .i64 (q:Int)/\Hid (∀ j,j<q->(pk L j).sp≠x.sp)/\Kb wr g x/\Yc w wr) (fun u _=>k - (intOf u).toNat);case atStart=>exact ⟨0,by omega,rfl,hid (fun i hi=>by omega),q2,HS2.o⟩
    case round =>
     clear q2 HS2;obtain ⟨q,hq,rfl,HQ,q3,hs3⟩:=hrel;have HS3:=hid hs3;clear hs3;by_cases hqk:q<k
     ·exact absurd hqk (by omega)
     ·have hge2:¬ (q:Int)<(k:Int):=by omega
      have HE:=hid (show ∀ i,i<k+1->Fit L s i from fun i hi=>by
       by_cases e:i=k
       ·subst e; exact HF2.o (fun j hj=>HX.o ▸ HQ.o j (by omega))
       ·exact HF.o i (by omega))
      clear hqk hq q3 HF HQ;go_wp2_with fail;go_roundw;case rel=>exact ⟨k+1,by omega,by go_num,HE,HS3.o⟩
      case measure=>simp [intOf]; omega
  ·have hge:¬ (k:Int)<(n:Int):=by omega
   have HE:Hid (YH L s=0):=hid (U1 ⟨HN.o.1,by rw [HL.o]; exact HN.o.2,fun i hi=>HF.o i (by have:=HL.o; omega)⟩);have HS1:=hid hs;clear hs hr hkn hk;go_wp2_with fail;go_ret;exact ⟨by rw [HE.o]; rfl,HS1.o⟩
theorem UC (L:List Pk) (s:Int) (ao:Option Addr) (n cap:Nat) (w:World) (hr:RdK w ao n L):Ya 50 #[.slice ao n cap,.int .i64 s] w (.int .i64 (YH L s)):=by
 by_cases h0:s<0
 ·have HE:Hid (YH L s=100):=hid (Vo (fun h=>by have:=h.1; omega));clear hr;go_enter Tryz.func50,Tryz.ntmps50;go_wp2_with fail;go_ret;exact ⟨by rw [HE.o]; rfl,Fr.refl _ _⟩
 ·by_cases h1:s > 16
  ·have HE:Hid (YH L s=100):=hid (Vo (fun h=>by have:=h.1; omega));clear hr;go_enter Tryz.func50,Tryz.ntmps50;go_wp2_with fail;go_ret;exact ⟨by rw [HE.o]; rfl,Fr.refl _ _⟩
  ·have h1':decide (16<s)=false:=by simpa using h1
   by_cases h8:8<n
   ·have HE:Hid (YH L s=100):=hid (Vo (fun h=>by have:=h.2.1; have:=hr.1; omega));have h8':(n:Int) > 8:=by omega
    clear hr;go_enter Tryz.func50,Tryz.ntmps50;go_wp2_with fail;go_ret;exact ⟨by rw [HE.o]; rfl,Fr.refl _ _⟩
   ·exact Az L s ao n cap w hr h0 h1' (by simp; omega)
end Go.Proofs.YthcjckgmdokmdaaGreatDoor
set_option maxRecDepth 100000
namespace Go.Proofs.YthcjckgmdokmdaaGreatDoor.Ha
open Pu Gp Ap Vp Np Za Ka Ja Ea
end Go.Proofs.YthcjckgmdokmdaaGreatDoor.Ha
namespace Go.Proofs.YthcjckgmdokmdaaGreatDoor
open Go.RowKit
open Pu Gp Ap Vp Np Za Ka Ja Ea Ha
set_option maxRecDepth 100000
theorem Gk.cl {w:World} {g:Nat} {F:Cf} {f fr nx:Int} {a b c d e:Value} (h:Gk w g F f fr nx a b c d e):(∀ z:Aft w,z.u.cell? ⟨g,0,none⟩=some (.int .i64 F.p))/\(∀ z:Aft w,z.u.cell? ⟨g,1,none⟩=some (.int .u64 F.q))/\(∀ z:Aft w,z.u.cell? ⟨g,2,none⟩=some (.int .i64 F.C))/\(∀ z:Aft w,z.u.cell? ⟨g,3,none⟩=some (.int .i64 F.R))/\(∀ z:Aft w,z.u.cell? ⟨g,4,none⟩=some (.string F.s))/\(∀ z:Aft w,z.u.cell? ⟨g,5,none⟩=some F.lg)/\(∀ z:Aft w,z.u.cell? ⟨g,6,none⟩=some (.int .i64 fr))/\(∀ z:Aft w,z.u.cell? ⟨g,7,none⟩=some a)/\(∀ z:Aft w,z.u.cell? ⟨g,8,none⟩=some b)/\(∀ z:Aft w,z.u.cell? ⟨g,9,none⟩=some c)/\(∀ z:Aft w,z.u.cell? ⟨g,10,none⟩=some d)/\(∀ z:Aft w,z.u.cell? ⟨g,11,none⟩=some (.int .i64 nx))/\(∀ z:Aft w,z.u.cell? ⟨g,12,none⟩=some e)/\(∀ z:Aft w,z.u.cell? ⟨g,13,none⟩=some (.int .i64 f)):=by
 obtain ⟨c0,c1,c2,c3,c4,c5,c6,c7,c8,c9,c10,c11,c12,c13,_⟩:=h.cells;exact ⟨kC c0,kC c1,kC c2,kC c3,kC c4,kC c5,kC c6,kC c7,kC c8,kC c9,kC c10,kC c11,kC c12,kC c13⟩
section
variable {B:Nat} {w w':World} {g:Nat} {F:Cf} {f:Int} {G:Gm} {a b c d e:Value}
theorem Gx.putM {gm n cp i:Nat} (h:Gx B w g F f G (.slice (some ⟨gm,0,none⟩) n cp) b c d e) (hi:i<G.w.ms.length) (m:Mv):Gx B (w.setCells gm (i*KM.k) (KM.f m)) g F f ⟨{ G.w with ms:=G.w.ms.set i m },G.ns⟩ (.slice (some ⟨gm,0,none⟩) n cp) b c d e/\FrT B [56] w (w.setCells gm (i*KM.k) (KM.f m)):=by
 have hT:=OwG.setT h.o1 (ts:=[56]) (by simp) (KM.f m) (i*KM.k) w (FrT.refl _ _ _) (h.o1.ty rfl);exact ⟨⟨h.hb,h.k.keepT hT (by decide),h.o1.put hi m,h.o2.keepT hT (by decide),h.o3.keepT hT (by decide),h.o4.keepT hT (by decide),h.o5.keepT hT (by decide)⟩,hT⟩
theorem Gx.putC {gm n cp i:Nat} (h:Gx B w g F f G a (.slice (some ⟨gm,0,none⟩) n cp) c d e) (hi:i<G.w.cs.length) (m:Scr):Gx B (w.setCells gm (i*KC.k) (KC.f m)) g F f ⟨{ G.w with cs:=G.w.cs.set i m },G.ns⟩ a (.slice (some ⟨gm,0,none⟩) n cp) c d e/\FrT B [61] w (w.setCells gm (i*KC.k) (KC.f m)):=by
 have hT:=OwG.setT h.o2 (ts:=[61]) (by simp) (KC.f m) (i*KC.k) w (FrT.refl _ _ _) (h.o2.ty rfl);exact ⟨⟨h.hb,h.k.keepT hT (by decide),h.o1.keepT hT (by decide),h.o2.put hi m,h.o3.keepT hT (by decide),h.o4.keepT hT (by decide),h.o5.keepT hT (by decide)⟩,hT⟩
theorem Gx.frT (h:Gx B w g F f G a b c d e) (o:Nat) (v:Value):FrT B [80] w (w.setCell ⟨g,o,none⟩ v):=(FrT.refl B [80] w).set h.k.ty (by simp) h.hb v
theorem Gx.setC (h:Gx B w g F f G a b c d e) (v:Value) (L:List Sh) (hv:OwG KS 122 w B v L):Gx B (w.setCell ⟨g,9,none⟩ v) g F f ⟨{ G.w with hs:=L },G.ns⟩ a b v d e :=
 ⟨h.hb,h.k.setC v,h.o1.setO h.k.ty (by decide) _,h.o2.setO h.k.ty (by decide) _,hv.setO h.k.ty (by decide) _,h.o4.setO h.k.ty (by decide) _,h.o5.setO h.k.ty (by decide) _⟩
theorem Gx.setD (h:Gx B w g F f G a b c d e) (v:Value) (L:List Pk) (hv:OwG KQ 124 w B v L):Gx B (w.setCell ⟨g,10,none⟩ v) g F f ⟨{ G.w with ks:=L },G.ns⟩ a b c v e :=
 ⟨h.hb,h.k.setD v,h.o1.setO h.k.ty (by decide) _,h.o2.setO h.k.ty (by decide) _,h.o3.setO h.k.ty (by decide) _,hv.setO h.k.ty (by decide) _,h.o5.setO h.k.ty (by decide) _⟩
theorem Gx.setX (h:Gx B w g F f G a b c d e) (v:Int):Gx B (w.setCell ⟨g,11,none⟩ (.int .i64 v)) g F f ⟨{ G.w with nx:=v },G.ns⟩ a b c d e :=
 ⟨h.hb,h.k.setX v,h.o1.setO h.k.ty (by decide) _,h.o2.setO h.k.ty (by decide) _,h.o3.setO h.k.ty (by decide) _,h.o4.setO h.k.ty (by decide) _,h.o5.setO h.k.ty (by decide) _⟩
theorem Gx.setF (h:Gx B w g F f G a b c d e) (v:Int):Gx B (w.setCell ⟨g,6,none⟩ (.int .i64 v)) g F f ⟨{ G.w with fr:=v },G.ns⟩ a b c d e :=
 ⟨h.hb,h.k.setF v,h.o1.setO h.k.ty (by decide) _,h.o2.setO h.k.ty (by decide) _,h.o3.setO h.k.ty (by decide) _,h.o4.setO h.k.ty (by decide) _,h.o5.setO h.k.ty (by decide) _⟩
theorem A9 {B o n:Nat} {L:List Cm} (h:RdG KX w (some ⟨B,o,none⟩) n L) {i:Nat} (hi:i<n) {x:Cm} (hx:cm L i=x):(∀ z:Aft w,z.u.cell? ⟨B,o+i*7,none⟩=some (.int .i64 x.fr))/\(∀ z:Aft w,z.u.cell? ⟨B,o+i*7+1,none⟩=some (.int .i64 x.pe))/\(∀ z:Aft w,z.u.cell? ⟨B,o+i*7+2,none⟩=some (.int .i64 x.sq))/\(∀ z:Aft w,z.u.cell? ⟨B,o+i*7+3,none⟩=some (.int .i64 x.v))/\(∀ z:Aft w,z.u.cell? ⟨B,o+i*7+4,none⟩=some (.int .i64 x.a))/\(∀ z:Aft w,z.u.cell? ⟨B,o+i*7+5,none⟩=some (.int .i64 x.b))/\(∀ z:Aft w,z.u.cell? ⟨B,o+i*7+6,none⟩=some (.int .i64 x.c)):=by
 subst hx;obtain ⟨c0,c1,c2,c3,c4,c5,c6⟩:=rdX h hi;exact ⟨kC c0,kC c1,kC c2,kC c3,kC c4,kC c5,kC c6⟩
end
end Go.Proofs.YthcjckgmdokmdaaGreatDoor
namespace Go.Proofs.YthcjckgmdokmdaaGreatDoor
open Go.RowKit
open Pu Gp Np Ka
set_option maxRecDepth 100000
theorem AA (q f s no:Int) (L:List Pk) (ao:Option Addr) (n cap:Nat) (w:World) (hr:RdK w ao n L) (hm:XS L s=false):Ya 73 #[.int .u64 q,.int .i64 f,.slice ao n cap,.int .i64 s,.int .i64 no] w (.tuple #[kv zK,.bool false,.int .i64 100]):=by
 have A0:=aL w (.cells (kcs zK) 124);have p0:=XX w zK;have H:=hid (UC L s ao n cap _ (hr.sT A0));rw [show YH L s=100 by unfold YH; rw [hm]; rfl] at H;have HS0:=hid A0;clear hm hr A0;go_enter Tryz.func73,Tryz.ntmps73;go_wp2_with fail;refine H.o.mono ?_;rintro e w1 ⟨rfl,h1⟩;have p1:=p0.sT h1;have HS1:=hid (HS0.o.trans h1);clear h1 HS0 p0 H;obtain ⟨c0,c1,c2,cf⟩:=p1.cells;go_wp2_with fail;refine bodyPost_ret (Kb.rest3 (Kb.put p1 _ _ _) rfl _ _ _ rfl rfl rfl) rfl ⟨rfl, ?_⟩;repeat (first | refine Yg ?_ _ _ _ (by omega) | with_reducible exact HS1.o)
theorem AB (q f s no:Int) (L:List Pk) (ao:Option Addr) (n cap:Nat) (w:World) (hr:RdK w ao n L) (hm:XS L s=true) (ha:U2 f no=false):Ya 73 #[.int .u64 q,.int .i64 f,.slice ao n cap,.int .i64 s,.int .i64 no] w (.tuple #[kv zK,.bool false,.int .i64 1]):=by
 have HA:Hid (¬ f<0->¬ f > 1099511627776->¬ no<1->no > 1099511627776):=hid (fun h1 h2 h3=>by
  cases h:decide (no > 1099511627776) with
  | true=>simpa using h
  | false =>
   have h6:¬ no > 1099511627776:=by simpa using h
   have:=argK_iff.2 (show (0<=f/\f<=1099511627776)/\1<=no/\no<=1099511627776 by omega);rw [this] at ha;cases ha)
 have A0:=aL w (.cells (kcs zK) 124);have p0:=XX w zK;have H:=hid (UC L s ao n cap _ (hr.sT A0));rw [show YH L s=0 by unfold YH; rw [hm]; rfl] at H;have HS0:=hid A0;clear hm hr A0 ha;go_enter Tryz.func73,Tryz.ntmps73;go_wp2_with fail;refine H.o.mono ?_;rintro e w1 ⟨rfl,h1⟩;have p1:=p0.sT h1;have HS1:=hid (HS0.o.trans h1);clear h1 HS0 p0 H;obtain ⟨c0,c1,c2,cf⟩:=p1.cells;by_cases g0:f<0
 ·go_wp2_with fail;refine bodyPost_ret (Kb.rest3 (Kb.put p1 _ _ _) rfl _ _ _ rfl rfl rfl) rfl ⟨rfl, ?_⟩;repeat (first | refine Yg ?_ _ _ _ (by omega) | with_reducible exact HS1.o)
 ·skip
  by_cases g1:f > 1099511627776
  ·go_wp2_with fail;refine bodyPost_ret (Kb.rest3 (Kb.put p1 _ _ _) rfl _ _ _ rfl rfl rfl) rfl ⟨rfl, ?_⟩;repeat (first | refine Yg ?_ _ _ _ (by omega) | with_reducible exact HS1.o)
  ·skip
   by_cases g2:no<1
   ·go_wp2_with fail;refine bodyPost_ret (Kb.rest3 (Kb.put p1 _ _ _) rfl _ _ _ rfl rfl rfl) rfl ⟨rfl, ?_⟩;repeat (first | refine Yg ?_ _ _ _ (by omega) | with_reducible exact HS1.o)
   ·skip
    have g3:no > 1099511627776:=HA.o (by omega) (by omega) (by omega);go_wp2_with fail;refine bodyPost_ret (Kb.rest3 (Kb.put p1 _ _ _) rfl _ _ _ rfl rfl rfl) rfl ⟨rfl, ?_⟩;repeat (first | refine Yg ?_ _ _ _ (by omega) | with_reducible exact HS1.o)
theorem AC (L:List Pk) (j:Nat):fre L (j+1)=fre L j ++ (if Xm L j then [] else [(j:Int)]):=rfl
theorem AD (q f no:Int) (S:Nat) (L:List Pk) (ao:Option Addr) (n cap:Nat) (w:World) (hr:RdK w ao n L) (hm:Zf L (S:Int)) (a0:¬ f<0) (a1:decide (1099511627776<f)=false) (a2:¬ no<1) (a3:decide (1099511627776<no)=false) (D:Bool) (X Y Z:Int)
  (hD:(f % 16≠0\/n=8\/(fre L S).length=0)->D=false/\X=0/\Y=0/\Z=0) (hD2:f % 16=0->n≠8->(fre L S).length≠0->D=true/\X=no/\Y=(fre L S).getD (bel (atI q f 1) ((fre L S).length:Int)).toNat 0/\Z=wgt (atI q f 2) [5,3,2]+1) :
  Ya 73 #[.int .u64 q,.int .i64 f,.slice ao n cap,.int .i64 (S:Int),.int .i64 no] w (.tuple #[kv ⟨X,Y,Z⟩,.bool D,.int .i64 0]):=by
 obtain ⟨i0,hi,hz,hz1,hz2⟩:=info_parts FO;have A0:=aL w (.cells (kcs zK) 124);have p0:=XX w zK;have H:=hid (UC L (S:Int) ao n cap _ (hr.sT A0));rw [U1 hm] at H;have HS0:=hid A0;have HR:=hid hr;have HM:=hid (show S<=16/\n<=8/\L.length=n by have:=hm.1; have:=hm.2.1; have:=hr.1; omega);have HD:=hid (And.intro hD hD2);have hn8:n<=8:=HM.o.2.1;have hS16:S<=16:=HM.o.1;clear hm hr A0 hD hD2;go_enter Tryz.func73,Tryz.ntmps73;go_wp2_with fail;refine H.o.mono ?_;rintro e w1 ⟨rfl,h1⟩;have p1:=p0.sT h1;have HS1:=hid (HS0.o.trans h1);clear h1 HS0 p0 H;go_wp2_with fail;have hf0:0<=f/\f<=1099511627776:=by simp at a1; omega
 clear a0 a1 a2 a3;go_loopw [14,15] (fun v u wr=>∃ (j:Nat) (bo:Option Addr) (m cp:Nat),j<=S/\v=.slice bo m cp/\u=.int .i64 (j:Int)/\OwI 3 wr bo m cp (fre L j)/\Yc w1 wr/\∀ a,bo=some a->w1.heap.size<=a.block) (fun _ u _=>S - (intOf u).toNat);case atStart=>exact ⟨0,none,0,0,Nat.zero_le _,rfl,rfl,OwI.empty _ _,Fr.refl _ _,fun _ h=>by cases h⟩
 case round =>
  obtain ⟨j,bo,m,cp,hj,rfl,rfl,ho,hst,hbo⟩:=hrel;by_cases hjS:j<S
  ·have hlt:(j:Int)<(S:Int):=by omega
   have HO:=hid (And.intro ho (And.intro hst hbo));have HR2:=hid ((HR.o.sT HS1.o).sT hst);clear ho hst hbo;go_wp2_with fail;go_loopw [16,17] (fun v u wx=>∃ k:Nat,k<=n/\v=.bool (Xm (L.take k) j)/\u=.int .i64 (k:Int)/\wx=wr) (fun _ u _=>n - (intOf u).toNat);case atStart=>exact ⟨0,by omega,rfl,rfl,rfl⟩
   case round =>
    obtain ⟨k,hk,rfl,rfl,rfl⟩:=hrel;by_cases hkn:k<n
    ·have hlt2:(k:Int)<(n:Int):=by omega
     obtain ⟨B,o,rfl,hc⟩:=HR2.o.at (by omega);obtain ⟨_,z1,_⟩:=hc k hkn;have HB:=hid (FY (L:=L) (k:=k) (j:=j) (by have:=HM.o; omega));obtain ⟨y,ey⟩:∃ y,(pk L k).sp=y:=⟨_,rfl⟩;obtain ⟨b,eb⟩:∃ b,Xm (L.take k) j=b:=⟨_,rfl⟩;rw [ey] at z1 HB;rw [eb] at HB ⊢;clear ey eb hc;cases b with
     | true =>
      go_wp2_with fail;go_roundw;case rel=>exact ⟨k+1,by omega,by rw [HB.o]; rfl,by go_num,by trivial⟩
      case measure=>simp [intOf]; omega
     | false =>
      go_wp2_with fail;go_roundw;case rel=>exact ⟨k+1,by omega,by rw [HB.o]; rfl,by go_num,by trivial⟩
      case measure=>simp [intOf]; omega
    ·have hge2:¬ (k:Int)<(n:Int):=by omega
     have HT:Hid (L.take k=L):=hid (List.take_of_length_le (by have:=HM.o; omega));have HFr:=hid (AC L j);rw [HT.o];obtain ⟨b,eb⟩:∃ b,Xm L j=b:=⟨_,rfl⟩;rw [eb] at HFr ⊢;clear eb hkn hk HT;cases b with
     | true =>
      go_wp2_with fail;go_roundw;case rel=>exact ⟨j+1,bo,m,cp,by omega,rfl,by go_num,by rw [HFr.o]; simpa using HO.o.1,HO.o.2.1,HO.o.2.2⟩
      case measure=>simp [intOf]; omega
     | false =>
      have hml:m<=16:=by have:=HO.o.1.rd.len; have:=Dl L j; have:=HM.o; omega
      go_wp2_with (at_builtin; refine U0 _ rfl _ _ 25 rfl 3 i0 Tryz.underlying25 hi hz hz1 hz2 bo (some ⟨wr.heap.size,0,none⟩) m cp 1 1 (fre L j) [(j:Int)] rfl rfl (HO.o.1.alloc _) (OwI.one _ wr _).rd (by omega) ?_; intro bo' cp' w2 ho' hf' hn' _);obtain ⟨hst',hbo'⟩:=Dj HO.o.2.1 HO.o.2.2 hf' hn';go_roundw;case rel=>exact ⟨j+1,bo',m+1,cp',by omega,rfl,by go_num,by rw [HFr.o]; exact ho',hst',hbo'⟩
      case measure=>simp [intOf]; omega
  ·have hge:¬ (j:Int)<(S:Int):=by omega
   obtain rfl:j=S:=by omega
   clear hi hz hz1 hz2 hge hj hjS;have HL:=hid ho.rd.len;have HO:=hid ho;have p2:=p1.sT hst;have HS2:=hid (HS1.o.trans hst);have HBO:=hid hbo;clear ho hst hbo HS1 p1;obtain ⟨c0,c1,c2,cf⟩:=p2.cells;have hm16:m<=16:=by have:=HL.o; have:=Dl L j; omega
   by_cases z0:f % 16=0
   ·have z0':f.tmod 16=0:=by rw [Int.tmod_eq_emod_of_nonneg (by omega)]; exact z0
    have HZ:=hid z0;clear z0;by_cases z1:n=8
    ·have z1':((n:Int) == 8)=true:=by simp; omega
     have HE:=hid (HD.o.1 (.inr (.inl z1)));clear z1;go_wp2_with fail;obtain ⟨rfl,rfl,rfl,rfl⟩:=HE.o;refine bodyPost_ret (Kb.rest3 (Kb.put p2 _ _ _) rfl _ _ _ rfl rfl rfl) rfl ⟨rfl, ?_⟩;repeat (first | refine Yg ?_ _ _ _ (by omega) | with_reducible exact HS2.o)
    ·have z1':((n:Int) == 8)=false:=by simp; omega
     have HZ1:=hid z1;clear z1;by_cases z2:m=0
     ·have z2':((m:Int) == 0)=true:=by simp; omega
      have HE:=hid (HD.o.1 (.inr (.inr (by have:=HL.o; omega))));clear z2;go_wp2_with fail;obtain ⟨rfl,rfl,rfl,rfl⟩:=HE.o;refine bodyPost_ret (Kb.rest3 (Kb.put p2 _ _ _) rfl _ _ _ rfl rfl rfl) rfl ⟨rfl, ?_⟩;repeat (first | refine Yg ?_ _ _ _ (by omega) | with_reducible exact HS2.o)
     ·have z2':((m:Int) == 0)=false:=by simp; omega
      have HE:=hid (HD.o.2 HZ.o HZ1.o (by have:=HL.o; omega));rw [show (fre L j).length=m from HL.o] at HE;have HZ2:=hid (show 0<m by omega);clear z2 c0 c1 c2 cf;go_wp2_with fail;refine (FP q f 1 (m:Int) (by omega) _).mono ?_;rintro e w3 ⟨he,hw⟩;rw [he,hw];clear he hw w3;have hb:=Dn (n:=atI q f 1) (k:=m) HZ2.o;obtain ⟨A,eA⟩:∃ A:Nat,bel (atI q f 1) (m:Int)=(A:Int):=⟨(bel (atI q f 1) (m:Int)).toNat,by omega⟩;rw [eA] at hb HE ⊢;have hA:A<m:=by omega
      clear eA hb;have A3:=aL wr (.cells #[.int .i64 5,.int .i64 3,.int .i64 2] 3);have p3:=p2.sT A3;have HS3:=hid (HS2.o.trans A3);have HO3:=hid (HO.o.sT A3);have HW:Hid (RdI (wr.alloc (.cells #[.int .i64 5,.int .i64 3,.int .i64 2] 3)) (some ⟨wr.heap.size,0,none⟩) 3 3 [5,3,2]):=hid (OwI.fresh (e:=3) wr _ 3 3 [5,3,2] rfl (Nat.le_refl _) (by unfold maxLen; omega) rfl (fun t ht=>by
       simp at ht;rcases (show t=0\/t=1\/t=2 by omega) with rfl | rfl | rfl <;> rfl)).rd
      clear A3;go_wp2_with fail;refine (FX q f 2 _ 3 3 [5,3,2] _ HW.o).mono ?_;rintro e w4 ⟨he,hw⟩;rw [he,hw];clear he hw w4 HW;have hk3:=Dq q f;unfold Uf at hk3;obtain ⟨K,eK⟩:∃ K,wgt (atI q f 2) [5,3,2]=K:=⟨_,rfl⟩;rw [eK] at HE hk3 ⊢;rw [Dp];clear eK;obtain ⟨c0,c1,c2,cf⟩:=p3.cells;obtain ⟨g,rfl⟩:=HO3.o.head (by omega);have d0:=HO3.o.rd.byte (k:=A) (by rw [HL.o]; exact hA);rw [Nat.zero_add] at d0;rw [show (fre L j).getD (A:Int).toNat 0=(fre L j)[A]'(by rw [HL.o]; exact hA) by simp [List.getD,show A<(fre L j).length by rw [HL.o]; exact hA]] at HE;obtain ⟨V,eV⟩:∃ V,(fre L j)[A]'(by rw [HL.o]; exact hA)=V:=⟨_,rfl⟩;rw [eV] at d0 HE;clear eV;have hAi:(A:Int)<(m:Int):=by omega
      go_wp2_with fail;obtain ⟨rfl,rfl,rfl,rfl⟩:=HE.o;refine bodyPost_ret (Kb.rest3 (Kb.put p3 _ _ _) rfl _ _ _ rfl rfl rfl) rfl ⟨rfl, ?_⟩;repeat (first | refine Yg ?_ _ _ _ (by omega) | with_reducible exact HS3.o)
   ·have HE:=hid (HD.o.1 (.inl z0));go_wp2_with fail;obtain ⟨rfl,rfl,rfl,rfl⟩:=HE.o;refine bodyPost_ret (Kb.rest3 (Kb.put p2 _ _ _) rfl _ _ _ rfl rfl rfl) rfl ⟨rfl, ?_⟩;repeat (first | refine Yg ?_ _ _ _ (by omega) | with_reducible exact HS2.o)
theorem AE (q f s no:Int) (L:List Pk) (ao:Option Addr) (n cap:Nat) (w:World) (hr:RdK w ao n L):Ya 73 #[.int .u64 q,.int .i64 f,.slice ao n cap,.int .i64 s,.int .i64 no] w (.tuple #[kv (YW q f L s no),.bool (comes L f s no),.int .i64 (XB L f s no)]):=by
 cases hm:XS L s with
 | false =>
  have e:XB L f s no=100:=by unfold XB; rw [hm]; rfl
  have e1:comes L f s no=false:=by unfold comes; rw [e]; rfl
  have e2:YW q f L s no=zK:=by unfold YW; rw [e1]; rfl
  rw [e,e1,e2];exact AA q f s no L ao n cap w hr hm
 | true =>
  cases ha:U2 f no with
  | false =>
   have e:XB L f s no=1:=by unfold XB; rw [hm,ha]; rfl
   have e1:comes L f s no=false:=by unfold comes; rw [e]; rfl
   have e2:YW q f L s no=zK:=by unfold YW; rw [e1]; rfl
   rw [e,e1,e2];exact AB q f s no L ao n cap w hr hm ha
  | true =>
   have e:XB L f s no=0:=by unfold XB; rw [hm,ha]; rfl
   have hM:=mayK_iff.1 hm;have hA:=argK_iff.1 ha;rw [e];obtain ⟨S,rfl⟩:∃ S:Nat,s=(S:Int):=⟨s.toNat,by have:=hM.1; omega⟩;refine AD q f no S L ao n cap w hr hM (by omega) (by simp; omega) (by omega) (by simp; omega) (comes L f S no) (YW q f L S no).no (YW q f L S no).sp (YW q f L S no).kd (fun h=>?_) (fun h1 h2 h3=>?_)
   ·have e1:comes L f S no=false:=by
     unfold comes;rw [e,Int.toNat_natCast];have hl:=hr.1;rcases h with h | h | h
     ·simp [h]
     ·rw [hl,h]; simp
     ·rw [h]; simp
    have e2:YW q f L S no=zK:=by unfold YW; rw [e1]; rfl
    rw [e2];exact ⟨e1,rfl,rfl,rfl⟩
   ·have e1:comes L f S no=true:=by
     unfold comes;rw [e,Int.toNat_natCast,hr.1];simp [h1,h2,h3]
    have e2:YW q f L S no=⟨no,XC q f L S,Uf q f⟩:=by unfold YW; rw [e1]; rfl
    rw [e2];refine ⟨e1,rfl, ?_,rfl⟩;show XC q f L S=_;unfold XC;rw [Int.toNat_natCast]
theorem Wj {x:Int} (h0:0<=x) (h1:x<=200):YB x 0 100=min x 100:=by
 unfold YB;rw [Pu.bnd_id (show -2147483647<=x by omega) (by omega),Pu.bnd_id (show -2147483647<=(0:Int) by omega) (by omega),Pu.bnd_id (show -2147483647<=(100:Int) by omega) (by omega)];repeat' split
 all_goals omega
theorem AF (m:Mv) (k:Int) (hm:Yq m=false) (w:World):Ya 71 #[mv m,.int .i64 k] w (.tuple #[mv zM,.int .i64 0,.int .i64 80]):=by
 have A0:=aL w (.cells (mcs m) 56);have A1:=aL (Ye w m) (.cells (mcs zM) 56);have p0:=(Yk w m).sT A1;have q0:=Yk (Ye w m) zM;simp only [Yf] at q0;have HS0:=hid (A0.trans A1);clear A0 A1;obtain ⟨c0,c1,c2,c3,c4,c5,c6,c7,c8,c9,c10,c11,c12,cf⟩:=p0.cells;have H:=hid (fun w=>Y7 m w);rw [show Yi m=80 by unfold Yi; rw [hm]; rfl] at H;clear hm;go_enter Tryz.func71,Tryz.ntmps71;go_wp2_with fail;refine (H.o _).mono ?_;rintro e w1 ⟨rfl,h1⟩;have p1:=p0.sT h1;have q1:=q0.sT h1;have HS1:=hid (HS0.o.trans h1);clear h1 HS0 p0 q0 c0 c1 c2 c3 c4 c5 c6 c7 c8 c9 c10 c11 c12 cf H;obtain ⟨c0,c1,c2,c3,c4,c5,c6,c7,c8,c9,c10,c11,c12,cf⟩:=p1.cells;obtain ⟨k0,k1,k2,k3,k4,k5,k6,k7,k8,k9,k10,k11,k12,kf⟩:=q1.cells;go_wp2_with fail;refine bodyPost_ret (Mb.rest3 (Mb.put q1 _ _ _ _ _ _ _ _ _ _ _ _ _) rfl _ _ _ rfl rfl rfl) rfl ⟨rfl, ?_⟩;repeat (first | refine Yg ?_ _ _ _ (by omega) | with_reducible exact HS1.o)
theorem AG (m:Mv) (k:Int) (hm:Yq m=true) (hk:¬ (1<=k/\k<=3)) (w:World):Ya 71 #[mv m,.int .i64 k] w (.tuple #[mv zM,.int .i64 0,.int .i64 1]):=by
 have A0:=aL w (.cells (mcs m) 56);have A1:=aL (Ye w m) (.cells (mcs zM) 56);have p0:=(Yk w m).sT A1;have q0:=Yk (Ye w m) zM;simp only [Yf] at q0;have HS0:=hid (A0.trans A1);clear A0 A1;obtain ⟨c0,c1,c2,c3,c4,c5,c6,c7,c8,c9,c10,c11,c12,cf⟩:=p0.cells;have H:=hid (fun w=>Y7 m w);rw [show Yi m=0 by unfold Yi; rw [hm]; rfl] at H;have HK:=hid hk;clear hm hk;go_enter Tryz.func71,Tryz.ntmps71;go_wp2_with fail;refine (H.o _).mono ?_;rintro e w1 ⟨rfl,h1⟩;have p1:=p0.sT h1;have q1:=q0.sT h1;have HS1:=hid (HS0.o.trans h1);clear h1 HS0 p0 q0 c0 c1 c2 c3 c4 c5 c6 c7 c8 c9 c10 c11 c12 cf H;obtain ⟨c0,c1,c2,c3,c4,c5,c6,c7,c8,c9,c10,c11,c12,cf⟩:=p1.cells;obtain ⟨k0,k1,k2,k3,k4,k5,k6,k7,k8,k9,k10,k11,k12,kf⟩:=q1.cells;by_cases g0:k<1
 ·go_wp2_with fail;refine bodyPost_ret (Mb.rest3 (Mb.put q1 _ _ _ _ _ _ _ _ _ _ _ _ _) rfl _ _ _ rfl rfl rfl) rfl ⟨rfl, ?_⟩;repeat (first | refine Yg ?_ _ _ _ (by omega) | with_reducible exact HS1.o)
 ·have g1:k > 3:=by have:=HK.o; omega
  go_wp2_with fail;refine bodyPost_ret (Mb.rest3 (Mb.put q1 _ _ _ _ _ _ _ _ _ _ _ _ _) rfl _ _ _ rfl rfl rfl) rfl ⟨rfl, ?_⟩;repeat (first | refine Yg ?_ _ _ _ (by omega) | with_reducible exact HS1.o)
theorem AH (m:Mv) (k:Int) (hm:Yq m=true) (g0:¬ k<1) (g1:decide (3<k)=false) (ho:m.ou > 0) (w:World):Ya 71 #[mv m,.int .i64 k] w (.tuple #[mv m,.int .i64 0,.int .i64 0]):=by
 have A0:=aL w (.cells (mcs m) 56);have A1:=aL (Ye w m) (.cells (mcs zM) 56);have p0:=(Yk w m).sT A1;have q0:=Yk (Ye w m) zM;simp only [Yf] at q0;have HS0:=hid (A0.trans A1);clear A0 A1;obtain ⟨c0,c1,c2,c3,c4,c5,c6,c7,c8,c9,c10,c11,c12,cf⟩:=p0.cells;have H:=hid (fun w=>Y7 m w);rw [show Yi m=0 by unfold Yi; rw [hm]; rfl] at H;clear hm;go_enter Tryz.func71,Tryz.ntmps71;go_wp2_with fail;refine (H.o _).mono ?_;rintro e w1 ⟨rfl,h1⟩;have p1:=p0.sT h1;have q1:=q0.sT h1;have HS1:=hid (HS0.o.trans h1);clear h1 HS0 p0 q0 c0 c1 c2 c3 c4 c5 c6 c7 c8 c9 c10 c11 c12 cf H;obtain ⟨c0,c1,c2,c3,c4,c5,c6,c7,c8,c9,c10,c11,c12,cf⟩:=p1.cells;obtain ⟨k0,k1,k2,k3,k4,k5,k6,k7,k8,k9,k10,k11,k12,kf⟩:=q1.cells;go_wp2_with fail;refine bodyPost_ret (Mb.rest3 (Mb.put q1 _ _ _ _ _ _ _ _ _ _ _ _ _) rfl _ _ _ rfl rfl rfl) rfl ⟨rfl, ?_⟩;repeat (first | refine Yg ?_ _ _ _ (by omega) | with_reducible exact HS1.o)
theorem AJ (m:Mv) (hm:Yq m=true) (ho:decide (0<m.ou)=false) (w:World):Ya 71 #[mv m,.int .i64 3] w (.tuple #[mv m,.int .i64 5,.int .i64 0]):=by
 have A0:=aL w (.cells (mcs m) 56);have A1:=aL (Ye w m) (.cells (mcs zM) 56);have p0:=(Yk w m).sT A1;have q0:=Yk (Ye w m) zM;simp only [Yf] at q0;have HS0:=hid (A0.trans A1);clear A0 A1;obtain ⟨c0,c1,c2,c3,c4,c5,c6,c7,c8,c9,c10,c11,c12,cf⟩:=p0.cells;have H:=hid (fun w=>Y7 m w);rw [show Yi m=0 by unfold Yi; rw [hm]; rfl] at H;clear hm;go_enter Tryz.func71,Tryz.ntmps71;go_wp2_with fail;refine (H.o _).mono ?_;rintro e w1 ⟨rfl,h1⟩;have p1:=p0.sT h1;have q1:=q0.sT h1;have HS1:=hid (HS0.o.trans h1);clear h1 HS0 p0 q0 c0 c1 c2 c3 c4 c5 c6 c7 c8 c9 c10 c11 c12 cf H;obtain ⟨c0,c1,c2,c3,c4,c5,c6,c7,c8,c9,c10,c11,c12,cf⟩:=p1.cells;obtain ⟨k0,k1,k2,k3,k4,k5,k6,k7,k8,k9,k10,k11,k12,kf⟩:=q1.cells;go_wp2_with fail;refine bodyPost_ret (Mb.rest3 (Mb.put q1 _ _ _ _ _ _ _ _ _ _ _ _ _) rfl _ _ _ rfl rfl rfl) rfl ⟨rfl, ?_⟩;repeat (first | refine Yg ?_ _ _ _ (by omega) | with_reducible exact HS1.o)
theorem AK (m:Mv) (hm:Yq m=true) (ho:decide (0<m.ou)=false) (h0:0<=m.hl) (h1:m.hl<=100) (w:World):Ya 71 #[mv m,.int .i64 1] w (.tuple #[mv { m with hl:=min (m.hl+30) 100 },.int .i64 0,.int .i64 0]):=by
 have A0:=aL w (.cells (mcs m) 56);have A1:=aL (Ye w m) (.cells (mcs zM) 56);have p0:=(Yk w m).sT A1;have q0:=Yk (Ye w m) zM;simp only [Yf] at q0;have HS0:=hid (A0.trans A1);clear A0 A1;obtain ⟨c0,c1,c2,c3,c4,c5,c6,c7,c8,c9,c10,c11,c12,cf⟩:=p0.cells;have H:=hid (fun w=>Y7 m w);rw [show Yi m=0 by unfold Yi; rw [hm]; rfl] at H;have HC:=hid (fun w=>VQ (m.hl+30) 0 100 w);rw [Wj (by omega) (by omega)] at HC;obtain ⟨v,ev⟩:∃ v,min (m.hl+30) 100=v:=⟨_,rfl⟩;rw [ev] at HC ⊢;clear hm ev;go_enter Tryz.func71,Tryz.ntmps71;go_wp2_with fail;refine (H.o _).mono ?_;rintro e w1 ⟨rfl,h1⟩;have p1:=p0.sT h1;have q1:=q0.sT h1;have HS1:=hid (HS0.o.trans h1);clear h1 HS0 p0 q0 c0 c1 c2 c3 c4 c5 c6 c7 c8 c9 c10 c11 c12 cf H;obtain ⟨c0,c1,c2,c3,c4,c5,c6,c7,c8,c9,c10,c11,c12,cf⟩:=p1.cells;obtain ⟨k0,k1,k2,k3,k4,k5,k6,k7,k8,k9,k10,k11,k12,kf⟩:=q1.cells;go_wp2_with fail;refine (HC.o _).mono ?_;rintro e w2 ⟨he,hw⟩;rw [he,hw];clear he hw w2 HC;have p3:=p1.hl v;have q3:=q1.other w.heap.size 7 (.int .i64 v) (by omega);have HS3:=hid (Yg HS1.o w.heap.size 7 (.int .i64 v) (Nat.le_refl _));obtain ⟨W3,eW3⟩:∃ W3,w1.setCell ⟨w.heap.size,7,none⟩ (.int .i64 v)=W3:=⟨_,rfl⟩;rw [eW3] at p3 q3 HS3;go_upto_region 14 with fail;clear eW3 p1 q1 HS1 c0 c1 c2 c3 c4 c5 c6 c7 c8 c9 c10 c11 c12 cf k0 k1 k2 k3 k4 k5 k6 k7 k8 k9 k10 k11 k12 kf;obtain ⟨c0,c1,c2,c3,c4,c5,c6,c7,c8,c9,c10,c11,c12,cf⟩:=p3.cells;obtain ⟨k0,k1,k2,k3,k4,k5,k6,k7,k8,k9,k10,k11,k12,kf⟩:=q3.cells;go_wp2_with fail;refine bodyPost_ret (Mb.rest3 (Mb.put q3 _ _ _ _ _ _ _ _ _ _ _ _ _) rfl _ _ _ rfl rfl rfl) rfl ⟨rfl, ?_⟩;repeat (first | refine Yg ?_ _ _ _ (by omega) | with_reducible exact HS3.o)
theorem AL (m:Mv) (hm:Yq m=true) (ho:decide (0<m.ou)=false) (h0:0<=m.en) (h1:m.en<=100) (w:World):Ya 71 #[mv m,.int .i64 2] w (.tuple #[mv { m with en:=min (m.en+40) 100 },.int .i64 0,.int .i64 0]):=by
 have A0:=aL w (.cells (mcs m) 56);have A1:=aL (Ye w m) (.cells (mcs zM) 56);have p0:=(Yk w m).sT A1;have q0:=Yk (Ye w m) zM;simp only [Yf] at q0;have HS0:=hid (A0.trans A1);clear A0 A1;obtain ⟨c0,c1,c2,c3,c4,c5,c6,c7,c8,c9,c10,c11,c12,cf⟩:=p0.cells;have H:=hid (fun w=>Y7 m w);rw [show Yi m=0 by unfold Yi; rw [hm]; rfl] at H;have HC:=hid (fun w=>VQ (m.en+40) 0 100 w);rw [Wj (by omega) (by omega)] at HC;obtain ⟨v,ev⟩:∃ v,min (m.en+40) 100=v:=⟨_,rfl⟩;rw [ev] at HC ⊢;clear hm ev;go_enter Tryz.func71,Tryz.ntmps71;go_wp2_with fail;refine (H.o _).mono ?_;rintro e w1 ⟨rfl,h1⟩;have p1:=p0.sT h1;have q1:=q0.sT h1;have HS1:=hid (HS0.o.trans h1);clear h1 HS0 p0 q0 c0 c1 c2 c3 c4 c5 c6 c7 c8 c9 c10 c11 c12 cf H;obtain ⟨c0,c1,c2,c3,c4,c5,c6,c7,c8,c9,c10,c11,c12,cf⟩:=p1.cells;obtain ⟨k0,k1,k2,k3,k4,k5,k6,k7,k8,k9,k10,k11,k12,kf⟩:=q1.cells;go_wp2_with fail;refine (HC.o _).mono ?_;rintro e w2 ⟨he,hw⟩;rw [he,hw];clear he hw w2 HC;have p3:=p1.en v;have q3:=q1.other w.heap.size 8 (.int .i64 v) (by omega);have HS3:=hid (Yg HS1.o w.heap.size 8 (.int .i64 v) (Nat.le_refl _));obtain ⟨W3,eW3⟩:∃ W3,w1.setCell ⟨w.heap.size,8,none⟩ (.int .i64 v)=W3:=⟨_,rfl⟩;rw [eW3] at p3 q3 HS3;go_upto_region 14 with fail;clear eW3 p1 q1 HS1 c0 c1 c2 c3 c4 c5 c6 c7 c8 c9 c10 c11 c12 cf k0 k1 k2 k3 k4 k5 k6 k7 k8 k9 k10 k11 k12 kf;obtain ⟨c0,c1,c2,c3,c4,c5,c6,c7,c8,c9,c10,c11,c12,cf⟩:=p3.cells;obtain ⟨k0,k1,k2,k3,k4,k5,k6,k7,k8,k9,k10,k11,k12,kf⟩:=q3.cells;go_wp2_with fail;refine bodyPost_ret (Mb.rest3 (Mb.put q3 _ _ _ _ _ _ _ _ _ _ _ _ _) rfl _ _ _ rfl rfl rfl) rfl ⟨rfl, ?_⟩;repeat (first | refine Yg ?_ _ _ _ (by omega) | with_reducible exact HS3.o)
theorem AM (m:Mv) (k:Int) (w:World):Ya 71 #[mv m,.int .i64 k] w (.tuple #[mv (Xe m k),.int .i64 (Zg m k),.int .i64 (Xd m k)]):=by
 cases hm:Yq m with
 | false =>
  have e:Xd m k=80:=by unfold Xd; rw [hm]; rfl
  have e1:Xe m k=zM:=by unfold Xe; rw [e]; rfl
  have e2:Zg m k=0:=by unfold Zg; rw [e]; rfl
  rw [e,e1,e2];exact AF m k hm w
 | true =>
  by_cases hk:1<=k/\k<=3
  ·have e:Xd m k=0:=by unfold Xd; rw [hm,if_pos hk]; rfl
   have e1:Xe m k=XD m k:=by unfold Xe; rw [e]; rfl
   obtain ⟨_,_,_,_,h5,h6,_,h8,_⟩:=mayB_iff.1 hm;by_cases ho:m.ou=0
   ·have ho':decide (0<m.ou)=false:=by simp; omega
    rcases (show k=1\/k=2\/k=3 by omega) with rfl | rfl | rfl
    ·have e2:Zg m 1=0:=by unfold Zg; rw [if_neg (by omega)]
     have e3:XD m 1={ m with hl:=min (m.hl+30) 100 }:=by unfold XD; rw [if_pos ho]; rfl
     rw [e,e1,e2,e3];exact AK m hm ho' h5.1 h5.2 w
    ·have e2:Zg m 2=0:=by unfold Zg; rw [if_neg (by omega)]
     have e3:XD m 2={ m with en:=min (m.en+40) 100 }:=by unfold XD; rw [if_pos ho]; rfl
     rw [e,e1,e2,e3];exact AL m hm ho' h6.1 h6.2 w
    ·have e2:Zg m 3=5:=by unfold Zg; rw [if_pos ⟨e,ho,rfl⟩]
     have e3:XD m 3=m:=by unfold XD; rw [if_pos ho]; rfl
     rw [e,e1,e2,e3];exact AJ m hm ho' w
   ·have e2:Zg m k=0:=by unfold Zg; rw [if_neg (fun h=>ho h.2.1)]
    have e3:XD m k=m:=by unfold XD; rw [if_neg ho]
    rw [e,e1,e2,e3];exact AH m k hm (by omega) (by simp; omega) (by omega) w
  ·have e:Xd m k=1:=by unfold Xd; rw [hm,if_neg hk]; rfl
   have e1:Xe m k=zM:=by unfold Xe; rw [e]; rfl
   have e2:Zg m k=0:=by unfold Zg; rw [e]; rfl
   rw [e,e1,e2];exact AG m k hm hk w
end Go.Proofs.YthcjckgmdokmdaaGreatDoor
