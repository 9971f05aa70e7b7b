import Derived.Laws.EntriesVeiled
import Derived.Test.YthcjckgmdokmdaaGreatDoorXQ40
set_option maxHeartbeats 16000000
namespace Go.Proofs.YthcjckgmdokmdaaGreatDoor
open Go.RowKit
set_option maxRecDepth 100000
def rwA (i:Nat):Nat:=if i=5 then 76 else 75
def rwB (i:Nat):Nat:=if i=0\/i=3\/i=7 then 76 else if i=4\/i=5 then 81 else 75
def rwT (i:Nat):Nat:=if i=0 then 77 else if i=1 then 78 else if i=2 then 79 else if i=3 then 80 else if i=4 then 82 else if i=5 then 83 else if i=6 then 84 else 85
abbrev VO (i:Nat):Array Value:=#[.int .i64 ((i:Int)+1),Value.func (.func (rwA i)) #[] #[],Value.func (.func (rwB i)) #[] #[],Value.func (.func (rwT i)) #[] #[]]
def KRw:Kd Nat:=⟨fun i=>(VO i).toList,4,0,fun _=>rfl,fun m u hu=>by
 simp at hu;rcases hu with rfl | rfl | rfl | rfl <;> rfl,by decide⟩
def rw8:List Nat:=[0,1,2,3,4,5,6,7]
theorem MH {i:Nat} (h:i<8):rw8.getD i 0=i:=by
 match i,h with
 | 0,_ | 1,_ | 2,_ | 3,_ | 4,_ | 5,_ | 6,_ | 7,_=>rfl
theorem BH {w:World} {B o:Nat} (h:RdG KRw w (some ⟨B,o,none⟩) 8 rw8) {i:Nat} (hi:i<8):w.cell? ⟨B,o+i*4,none⟩=some (.int .i64 ((i:Int)+1))/\w.cell? ⟨B,o+i*4+1,none⟩=some (Value.func (.func (rwA i)) #[] #[])/\w.cell? ⟨B,o+i*4+2,none⟩=some (Value.func (.func (rwB i)) #[] #[])/\w.cell? ⟨B,o+i*4+3,none⟩=some (Value.func (.func (rwT i)) #[] #[]):=by
 have k:=h.get hi;rw [show rw8.getD i KRw.d=i from MH hi] at k;exact ⟨k 0 _ rfl,k 1 _ rfl,k 2 _ rfl,k 3 _ rfl⟩
theorem MI (w:World):Calls Tryz.prog 35 #[] w fun e w'=>e=.returned (.slice (some ⟨w.heap.size,0,none⟩) 8 8)/\RdG KRw w' (some ⟨w.heap.size,0,none⟩) 8 rw8/\Yc w w':=by
 go_enter Tryz.func35,Tryz.ntmps35;go_wp2_with fail;go_ret;exact ⟨rfl,VI (heap_alloc_new w _) rw8 (by kernel_rfl) (Nat.le_of_ble_eq_true rfl),aL w _⟩
def Rwb (w:World) (g:Nat) (a b c d:Value):Prop:=w.heap[g]?=some (.cells #[a,b,c,d] 92 (0,0))
theorem Rwb.sT {w w':World} {g:Nat} {a b c d:Value} (h:Rwb w g a b c d) (hs:Yc w w'):Rwb w' g a b c d:=hs.kept_still h
theorem Rwb.cells {w:World} {g:Nat} {a b c d:Value} (h:Rwb w g a b c d):w.cell? ⟨g,0,none⟩=some a/\w.cell? ⟨g,1,none⟩=some b/\w.cell? ⟨g,2,none⟩=some c/\w.cell? ⟨g,3,none⟩=some d/\∀ o,w.frozen? ⟨g,o,none⟩=false:=by
 refine ⟨?_, ?_, ?_, ?_,fun o=>frozen_of_row w g o _ _ h⟩ <;> (rw [cell_of_row _ _ _ _ _ _ h]; rfl)
theorem Rwb.put {w:World} {g:Nat} {x y z u:Value} (h:Rwb w g x y z u) (a b c d:Value):Rwb ((((w.setCell ⟨g,0,none⟩ a).setCell ⟨g,1,none⟩ b).setCell ⟨g,2,none⟩ c).setCell ⟨g,3,none⟩ d) g a b c d:=by
 have h1:=heap_setCell_same w g 0 _ _ a h;have h2:=heap_setCell_same _ g 1 _ _ b h1;have h3:=heap_setCell_same _ g 2 _ _ c h2;have h4:=heap_setCell_same _ g 3 _ _ d h3;exact h4.trans (by kernel_rfl)
theorem Rwb.load {w:World} {g:Nat} {a b c d:Value} (h:Rwb w g a b c d):(loadVar 92 ⟨g,0,none⟩).run Tryz.prog w=.ok (.agg #[a,b,c,d]) w:=by
 obtain ⟨c0,c1,c2,c3,cf⟩:=h.cells;go_simp
theorem Rwb.rest {fn:Func} {p q:Tmp} {w:World} {g:Nat} {a b c d:Value} (hb:Rwb w g a b c d) (h:fn.results=#[.cell p 92,.tmp q]) (tmps:Array Value) (t:Value) (hp:tmps.getD p undef=.pointer (some ⟨g,0,none⟩)) (hq:tmps.getD q undef=t) :
  (results fn tmps).run Tryz.prog w=.ok (.tuple #[.agg #[a,b,c,d],t]) w:=by
 have hp':tmps[p]?.getD undef=.pointer (some ⟨g,0,none⟩):=by simpa using hp
 have hq':tmps[q]?.getD undef=t:=by simpa using hq
 simp [results,h,hp',hq',asAddr,hb.load]
abbrev rwz:Array Value:=#[.int .i64 0,.nilFunc,.nilFunc,.nilFunc]
theorem VP (j:Nat) (hj:j<8) (ao:Option Addr) (cap:Nat) (w:World) (hr:RdG KRw w ao 8 rw8):Ya 36 #[.slice ao 8 cap,.int .i64 ((j:Int)+1)] w (.tuple #[.agg (VO j),.bool true]):=by
 have HR:=hid hr;have A0:=aL w (.cells rwz 92);have p0:Rwb (w.alloc (.cells rwz 92)) w.heap.size (.int .i64 0) .nilFunc .nilFunc .nilFunc:=heap_alloc_new w _;have HS0:=hid A0;clear hr A0;go_enter Tryz.func36,Tryz.ntmps36;go_wp2_with fail;go_loopw [10] (fun u wr=>∃ i:Nat,i<=j/\u=.int .i64 (i:Int)/\Rwb wr w.heap.size (.int .i64 0) .nilFunc .nilFunc .nilFunc/\Yc w wr) (fun u _=>8 - (intOf u).toNat);case atStart=>exact ⟨0,by omega,rfl,p0,HS0.o⟩
 case round =>
  obtain ⟨i,hi,rfl,p1,hs⟩:=hrel;have hlt:(i:Int)<8:=by omega
  have hr1:=HR.o.sT hs;obtain ⟨B,o,rfl⟩:=hr1.at (by omega);obtain ⟨c0,c1,c2,c3⟩:=BH hr1 (i:=i) (by omega);have HS1:=hid hs;have HP1:=hid p1;have A2:=aL wr (.cells (VO i) 92);have p2:Rwb (wr.alloc (.cells (VO i) 92)) wr.heap.size (.int .i64 ((i:Int)+1)) (Value.func (.func (rwA i)) #[] #[]) (Value.func (.func (rwB i)) #[] #[]) (Value.func (.func (rwT i)) #[] #[]):=heap_alloc_new wr _;have HP2:=hid (p1.sT A2);have HS2:=hid (hs.trans A2);obtain ⟨ga,ega⟩:∃ x,rwA i=x:=⟨_,rfl⟩;obtain ⟨gb,egb⟩:∃ x,rwB i=x:=⟨_,rfl⟩;obtain ⟨gt,egt⟩:∃ x,rwT i=x:=⟨_,rfl⟩;have HG:=hid (And.intro ega (And.intro egb egt));unfold VO at p2 HP2 HS2;rw [ega] at c1 p2 HP2 HS2;rw [egb] at c2 p2 HP2 HS2;rw [egt] at c3 p2 HP2 HS2;obtain ⟨d0,d1,d2,d3,df⟩:=p2.cells;by_cases hij:i<j
  ·have b1:(((i:Int)+1) == ((j:Int)+1))=false:=by
    simp;omega
   clear hr1 hs p1 p0 HS0 A2 p2 ega egb egt;go_wp2_with fail;go_roundw;case rel=>exact ⟨i+1,by omega,by go_num,HP2.o,HS2.o⟩
   case measure=>first | (simp [intOf]; done) | (simp [intOf]; omega)
  ·obtain rfl:i=j:=by omega
   have b1:(((i:Int)+1) == ((i:Int)+1))=true:=by simp
   obtain ⟨W2,eW2⟩:∃ X,wr.alloc (.cells #[.int .i64 ((i:Int)+1),Value.func (.func ga) #[] #[],Value.func (.func gb) #[] #[],Value.func (.func gt) #[] #[]] 92)=X:=⟨_,rfl⟩;rw [eW2] at HP2 HS2 d0 d1 d2 d3 df;obtain ⟨e0,e1,e2,e3,ef⟩:=HP2.o.cells;have HQ:=hid (HP2.o.put (.int .i64 ((i:Int)+1)) (Value.func (.func ga) #[] #[]) (Value.func (.func gb) #[] #[]) (Value.func (.func gt) #[] #[]));clear hr1 hs p1 p0 HS0 A2 p2 ega egb egt;go_wp2_with fail
   (try simp only [Exit.inBlock,Exit.then])
   (first | rw [Exit.noGoto_ret] | skip)
   refine bodyPost_ret (Rwb.rest HQ.o rfl _ _ rfl rfl) rfl ⟨?_, ?_⟩
   ·obtain ⟨h1,h2,h3⟩:=HG.o;subst h1 h2 h3;rfl
   ·exact Fr.setCell (Fr.setCell (Fr.setCell (Fr.setCell HS2.o _ _ (.inr (Nat.le_refl _))) _ _ (.inr (Nat.le_refl _))) _ _ (.inr (Nat.le_refl _))) _ _ (.inr (Nat.le_refl _))
theorem MJ (kd:Int) (hk:∀ j:Nat,j<8->kd≠(j:Int)+1) (ao:Option Addr) (cap:Nat) (w:World) (hr:RdG KRw w ao 8 rw8):Ya 36 #[.slice ao 8 cap,.int .i64 kd] w (.tuple #[.agg rwz,.bool false]):=by
 have HR:=hid hr;have HK:=hid hk;have A0:=aL w (.cells rwz 92);have p0:Rwb (w.alloc (.cells rwz 92)) w.heap.size (.int .i64 0) .nilFunc .nilFunc .nilFunc:=heap_alloc_new w _;have HS0:=hid A0;clear hr A0 hk;go_enter Tryz.func36,Tryz.ntmps36;go_wp2_with fail;go_loopw [10] (fun u wr=>∃ i:Nat,i<=8/\u=.int .i64 (i:Int)/\Rwb wr w.heap.size (.int .i64 0) .nilFunc .nilFunc .nilFunc/\Yc w wr) (fun u _=>8 - (intOf u).toNat);case atStart=>exact ⟨0,by omega,rfl,p0,HS0.o⟩
 case round =>
  obtain ⟨i,hi,rfl,p1,hs⟩:=hrel;by_cases hin:i<8
  ·have hlt:(i:Int)<8:=by omega
   have hr1:=HR.o.sT hs;obtain ⟨B,o,rfl⟩:=hr1.at (by omega);obtain ⟨c0,c1,c2,c3⟩:=BH hr1 (i:=i) (by omega);have A2:=aL wr (.cells (VO i) 92);have p2:Rwb (wr.alloc (.cells (VO i) 92)) wr.heap.size (.int .i64 ((i:Int)+1)) (Value.func (.func (rwA i)) #[] #[]) (Value.func (.func (rwB i)) #[] #[]) (Value.func (.func (rwT i)) #[] #[]):=heap_alloc_new wr _;have HP2:=hid (p1.sT A2);have HS2:=hid (hs.trans A2);have b1:(((i:Int)+1) == kd)=false:=by
    have:=HK.o i hin;simp;omega
   obtain ⟨ga,ega⟩:∃ x,rwA i=x:=⟨_,rfl⟩;obtain ⟨gb,egb⟩:∃ x,rwB i=x:=⟨_,rfl⟩;obtain ⟨gt,egt⟩:∃ x,rwT i=x:=⟨_,rfl⟩;unfold VO at p2 HP2 HS2;rw [ega] at c1 p2 HP2 HS2;rw [egb] at c2 p2 HP2 HS2;rw [egt] at c3 p2 HP2 HS2;obtain ⟨d0,d1,d2,d3,df⟩:=p2.cells;clear hr1 hs p1 p0 HS0 A2 p2 ega egb egt;go_wp2_with fail;go_roundw;case rel=>exact ⟨i+1,by omega,by go_num,HP2.o,HS2.o⟩
   case measure=>first | (simp [intOf]; done) | (simp [intOf]; omega)
  ·have hge:¬ (i:Int)<8:=by omega
   have HS1:=hid hs;have HQ:=hid (p1.put (.int .i64 0) .nilFunc .nilFunc .nilFunc);obtain ⟨e0,e1,e2,e3,ef⟩:=p1.cells;clear hs p1 p0 HS0 hin;go_wp2_with fail
   (try simp only [Exit.inBlock,Exit.then])
   (first | rw [Exit.noGoto_ret] | skip)
   refine bodyPost_ret (Rwb.rest HQ.o rfl _ _ rfl rfl) rfl ⟨rfl, ?_⟩;exact Fr.setCell (Fr.setCell (Fr.setCell (Fr.setCell HS1.o _ _ (.inr (Nat.le_refl _))) _ _ (.inr (Nat.le_refl _))) _ _ (.inr (Nat.le_refl _))) _ _ (.inr (Nat.le_refl _))
theorem MK (a b:Int):okN ⟨1,a,b⟩=(Yu a):=by simp [okN]
theorem MM (a b:Int):okN ⟨2,a,b⟩=(Yu a && Yu b):=by simp [okN]
theorem MN (a b:Int):okN ⟨3,a,b⟩=(Yu a && Yu b):=by simp [okN]
theorem MO (a b:Int):okN ⟨4,a,b⟩=(Yu a):=by simp [okN]
theorem MP (a b:Int):okN ⟨5,a,b⟩=(Yu a && ZM b):=by simp [okN]
theorem MQ (a b:Int):okN ⟨6,a,b⟩=(ZM b):=by simp [okN]
theorem MR (a b:Int):okN ⟨7,a,b⟩=(Yu a && Yu b):=by simp [okN]
theorem MS (a b:Int):okN ⟨8,a,b⟩=(Yu a):=by simp [okN]
theorem MT {k a b:Int} (h:∀ j:Nat,j<8->k≠(j:Int)+1):okN ⟨k,a,b⟩=false:=by
 have h0:=h 0 (by decide);have h1:=h 1 (by decide);have h2:=h 2 (by decide);have h3:=h 3 (by decide);have h4:=h 4 (by decide);have h5:=h 5 (by decide);have h6:=h 6 (by decide);have h7:=h 7 (by decide);simp at h0 h1 h2 h3 h4 h5 h6 h7;simp [okN,h0,h1,h2,h3,h4,h5,h6,h7]
theorem MU {L:List Nv} {i:Nat} (h:i<L.length):(L.take (i+1)).map lnS=(L.take i).map lnS ++ [lnS (nvd L i)]:=by
 rw [List.take_succ_eq_append_getElem h,List.map_append,UG h];rfl
theorem BI (L:List Nv):enS (L.map lnS)=ntS L:=by
 unfold enS ntS;rw [List.foldl_map]
theorem MV (L:List Nv) (hL:∀ x∈L,I64 x.a/\I64 x.b) (ao:Option Addr) (n cap:Nat) (w:World) (hr:RdG KNv w ao n L) (hn:n<=2097152) (ht:PTabV w) (hk:KTab w):Ya 11 #[.slice ao n cap] w (.tuple #[.string (ntR L),.int .i64 (ntE L)]):=by
 have HR:=hid hr;have HL:=hid hr.1;have HX:=hid hL;have HT:=hid ht;have HK:=hid hk;have HZ:=hid (Wv hL);obtain ⟨R,eR⟩:∃ x,ntR L=x:=⟨_,rfl⟩;obtain ⟨E,eE⟩:∃ x,ntE L=x:=⟨_,rfl⟩;have HRn:=hid (fun h=>Ww (L:=L) h);have HRy:=hid (fun h=>Q1 (L:=L) h);rw [eR,eE] at HRn HRy ⊢;clear hr hL ht hk eR eE;go_enter Tryz.func11,Tryz.ntmps11;go_wp2_with fail;refine (MI _).mono ?_;rintro e w1 ⟨rfl,hrw,h1⟩;have HRw:=hid hrw;have HS1:=hid h1;obtain ⟨rb,erb⟩:∃ x,w.heap.size=x:=⟨_,rfl⟩;rw [erb] at HRw ⊢;clear hrw h1 erb;go_wp2_with fail;go_loopw [5,13] (fun v u wr=>∃ i:Nat,i<=n/\u=.int .i64 (i:Int)/\OwG KSt 9 wr w1.heap.size v ((L.take i).map lnS)/\Hid ((L.take i).all okN=true)/\Yc w1 wr) (fun _ u _=>n - (intOf u).toNat);case atStart=>exact ⟨0,by omega,rfl,OwG.nil _ _,hid rfl,Fr.refl _ _⟩
 case round =>
  obtain ⟨i,hi,rfl,ho,HA,hs⟩:=hrel;have HO:=hid ho;have HS:=hid hs;obtain ⟨lo,lcp,rfl,hlo⟩:=ho.slice;have HLe:Hid (((L.take i).map lnS).length=i):=hid (by rw [List.length_map,List.length_take]; have:=HL.o; omega);by_cases hin:i<n
  ·have hlt:(i:Int)<(n:Int):=by omega
   have hiL:i<L.length:=by have:=HL.o; omega
   have hr1:=HR.o.sT (HS1.o.trans hs);obtain ⟨B,o,rfl⟩:=hr1.at (by omega);obtain ⟨c0,c1,c2⟩:=II hr1 hin;have HXx:=hid (HX.o (nvd L i) (by rw [UG hiL]; exact List.getElem_mem _));have HSt:=hid (MU hiL);have HAl:=hid (IK hiL);have HNo:=hid (fun e=>IL hiL e);obtain ⟨x,ex⟩:∃ x,nvd L i=x:=⟨_,rfl⟩;rw [ex] at c0 c1 c2 HSt HAl HNo HXx;obtain ⟨LL,eLL⟩:∃ m,(L.take i).map lnS=m:=⟨_,rfl⟩;rw [eLL] at HO HSt HLe;rw [eLL];have A2:=aL wr (.cells (Yv x) 49);have p2:Nvb (wr.alloc (.cells (Yv x) 49)) wr.heap.size x:=heap_alloc_new wr _;have HP2:=hid p2;have HS2:=hid (hs.trans A2);have HS2x:=hid A2;have HRw2:=hid (HRw.o.sT (hs.trans A2));obtain ⟨xk,xa,xb⟩:=x;dsimp only at c0 c1 c2 HXx;obtain ⟨W2,eW2⟩:∃ X,wr.alloc (.cells (Yv ⟨xk,xa,xb⟩) 49)=X:=⟨_,rfl⟩;rw [eW2] at HP2 HS2 HS2x HRw2 p2;obtain ⟨n0,n1,n2,nf⟩:=p2.cells;clear ex eLL hr1 hs ho hiL A2 hlo hin p2;rcases (show xk=1\/xk=2\/xk=3\/xk=4\/xk=5\/xk=6\/xk=7\/xk=8\/(∀ j:Nat,j<8->xk≠(j:Int)+1) by
    by_cases h:1<=xk/\xk<=8
    ·omega
    ·refine .inr (.inr (.inr (.inr (.inr (.inr (.inr (.inr (fun j hj e=>?_))))))));omega) with rfl | rfl | rfl | rfl | rfl | rfl | rfl | rfl | hno
   ·have HRo:Hid (Ya 36 #[.slice (some ⟨rb,0,none⟩) 8 8,.int .i64 1] W2 (.tuple #[.agg #[.int .i64 1,Value.func (.func 75) #[] #[],Value.func (.func 76) #[] #[],Value.func (.func 77) #[] #[]],.bool true])):=hid (VP 0 (by decide) _ 8 W2 HRw2.o);have EO:=hid (MK xa xb);rw [EO.o] at HAl HNo;go_wp2_with fail;refine HRo.o.mono ?_;rintro e w3 ⟨rfl,h3⟩;have A4:=aL w3 (.cells #[.int .i64 1,Value.func (.func 75) #[] #[],Value.func (.func 76) #[] #[],Value.func (.func 77) #[] #[]] 92);have p4:Rwb (w3.alloc (.cells #[.int .i64 1,Value.func (.func 75) #[] #[],Value.func (.func 76) #[] #[],Value.func (.func 77) #[] #[]] 92)) w3.heap.size (.int .i64 1) (Value.func (.func 75) #[] #[]) (Value.func (.func 76) #[] #[]) (Value.func (.func 77) #[] #[]):=heap_alloc_new w3 _;have HP4:=hid (HP2.o.sT (h3.trans A4));have HS4:=hid (HS2.o.trans (h3.trans A4));have HS4x:=hid (HS2x.o.trans (h3.trans A4));obtain ⟨W4,eW4⟩:∃ X,w3.alloc (.cells #[.int .i64 1,Value.func (.func 75) #[] #[],Value.func (.func 76) #[] #[],Value.func (.func 77) #[] #[]] 92)=X:=⟨_,rfl⟩;rw [eW4] at p4 HP4 HS4 HS4x;obtain ⟨m0,m1,m2,m3,mf⟩:=p4.cells;clear n0 n1 n2 nf c0 c1 c2 h3 A4 p4 HRo eW2;obtain ⟨n0,n1,n2,nf⟩:=HP4.o.cells;cases ha:Yu xa with
    | false =>
     have HQa:=hid (Zt xa W4);rw [ha] at HQa HNo HAl
     (try rw [Bool.false_and] at HNo HAl)
     go_wp2_with fail;refine HQa.o.mono ?_;rintro e wa ⟨rfl,hwa⟩;have hwa:=hwa.symm;subst hwa;clear HQa;obtain ⟨rfl,rfl⟩:=HRn.o (HNo.o (by first | trivial | rfl));clear HNo HAl EO;go_wp2_with fail
     (first | rw [Exit.noGoto_ret] | skip)
     go_ret2
     exact ⟨rfl,HS1.o.trans HS4.o⟩
    | true =>
     have HQa:=hid (Zt xa W4);rw [ha] at HQa HNo HAl
     (try rw [Bool.true_and] at HNo HAl)
     have Ha:=hid ha;clear ha;go_wp2_with fail;refine HQa.o.mono ?_;rintro e wa ⟨rfl,hwa⟩;have hwa:=hwa.symm;subst hwa;clear HQa;have HQb:=hid (Kp xb W4);go_wp2_with fail;refine HQb.o.mono ?_;rintro e wb ⟨rfl,hwb⟩;have hwb:=hwb.symm;subst hwb;clear HQb;have HTe:=hid (Mo ⟨1,xa,xb⟩ Ha.o HXx.o.2 W4 (HT.o.sT (HS1.o.trans HS4.o)) (HK.o.sT (HS1.o.trans HS4.o)));have HLn:Hid (lnS ⟨1,xa,xb⟩=((ltS xa.toNat ++ ⟨#[32,102,105,114,101,100,32]⟩) ++ itS xb)):=hid rfl;dsimp only at HTe;rw [<- HLn.o] at HTe;obtain ⟨l,el⟩:∃ l,lnS ⟨1,xa,xb⟩=l:=⟨_,rfl⟩;rw [el] at HTe HSt;clear el HLn;have HA1:Hid ((L.take (i+1)).all okN=true):=hid (by rw [HAl.o,HA.o]; rfl);clear HAl HNo EO;go_wp2_with fail;refine HTe.o.mono ?_;rintro e w5 ⟨rfl,h5⟩;have A6:=aL w5 (.cells #[.string l] 9);have HO6:=hid (HO.o.sT (HS4x.o.trans (h5.trans A6)));have HS6:=hid (HS4.o.trans (h5.trans A6));have HY6:=hid (Vb (show (w5.alloc (.cells #[.string l] 9)).heap[w5.heap.size]?=some (.cells #[.string l] 9 (0,0)) from heap_alloc_new w5 _));have HB6:Hid (w1.heap.size<=(w5.alloc (.cells #[.string l] 9)).heap.size):=hid HS6.o.size;have HL4:Hid ((LL.length+[l].length)*16<=140737488355328):=hid (by have:=HLe.o; simp only [List.length_cons,List.length_nil]; omega);have HL5:Hid (LL.length+[l].length<=281474976710656):=hid (by have:=HLe.o; simp only [List.length_cons,List.length_nil]; omega);clear A6 h5 HTe m0 m1 m2 m3 mf n0 n1 n2 nf;go_wp2_with (
      at_builtin;refine Xu KSt _ rfl _ _ 66 rfl Tryz.underlying66 16 (.string ⟨#[]⟩) rfl Xv w1.heap.size (.slice lo LL.length lcp) LL [l] (some ⟨w5.heap.size,0,none⟩) 1 1 rfl rfl rfl HO6.o HY6.o HL4.o HL5.o HB6.o ?_;intro v' w' ho' hf';have HO9:=hid ho';have HF9:=hid hf';clear ho' hf')
     go_roundw;case rel=>exact ⟨i+1,by omega,by go_num,by rw [HSt.o]; exact HO9.o,HA1,Zy HS6.o HO6.o HF9.o (Nat.le_refl _)⟩
     case measure=>first | (simp [intOf]; done) | (simp [intOf]; omega)
   ·have HRo:Hid (Ya 36 #[.slice (some ⟨rb,0,none⟩) 8 8,.int .i64 2] W2 (.tuple #[.agg #[.int .i64 2,Value.func (.func 75) #[] #[],Value.func (.func 75) #[] #[],Value.func (.func 78) #[] #[]],.bool true])):=hid (VP 1 (by decide) _ 8 W2 HRw2.o);have EO:=hid (MM xa xb);rw [EO.o] at HAl HNo;go_wp2_with fail;refine HRo.o.mono ?_;rintro e w3 ⟨rfl,h3⟩;have A4:=aL w3 (.cells #[.int .i64 2,Value.func (.func 75) #[] #[],Value.func (.func 75) #[] #[],Value.func (.func 78) #[] #[]] 92);have p4:Rwb (w3.alloc (.cells #[.int .i64 2,Value.func (.func 75) #[] #[],Value.func (.func 75) #[] #[],Value.func (.func 78) #[] #[]] 92)) w3.heap.size (.int .i64 2) (Value.func (.func 75) #[] #[]) (Value.func (.func 75) #[] #[]) (Value.func (.func 78) #[] #[]):=heap_alloc_new w3 _;have HP4:=hid (HP2.o.sT (h3.trans A4));have HS4:=hid (HS2.o.trans (h3.trans A4));have HS4x:=hid (HS2x.o.trans (h3.trans A4));obtain ⟨W4,eW4⟩:∃ X,w3.alloc (.cells #[.int .i64 2,Value.func (.func 75) #[] #[],Value.func (.func 75) #[] #[],Value.func (.func 78) #[] #[]] 92)=X:=⟨_,rfl⟩;rw [eW4] at p4 HP4 HS4 HS4x;obtain ⟨m0,m1,m2,m3,mf⟩:=p4.cells;clear n0 n1 n2 nf c0 c1 c2 h3 A4 p4 HRo eW2;obtain ⟨n0,n1,n2,nf⟩:=HP4.o.cells;cases ha:Yu xa with
    | false =>
     have HQa:=hid (Zt xa W4);rw [ha] at HQa HNo HAl
     (try rw [Bool.false_and] at HNo HAl)
     go_wp2_with fail;refine HQa.o.mono ?_;rintro e wa ⟨rfl,hwa⟩;have hwa:=hwa.symm;subst hwa;clear HQa;obtain ⟨rfl,rfl⟩:=HRn.o (HNo.o (by first | trivial | rfl));clear HNo HAl EO;go_wp2_with fail
     (first | rw [Exit.noGoto_ret] | skip)
     go_ret2
     exact ⟨rfl,HS1.o.trans HS4.o⟩
    | true =>
     have HQa:=hid (Zt xa W4);rw [ha] at HQa HNo HAl
     (try rw [Bool.true_and] at HNo HAl)
     have Ha:=hid ha;clear ha;go_wp2_with fail;refine HQa.o.mono ?_;rintro e wa ⟨rfl,hwa⟩;have hwa:=hwa.symm;subst hwa;clear HQa;cases hb:Yu xb with
     | false =>
      have HQb:=hid (Zt xb W4);rw [hb] at HQb HNo HAl;go_wp2_with fail;refine HQb.o.mono ?_;rintro e wb ⟨rfl,hwb⟩;have hwb:=hwb.symm;subst hwb;clear HQb;obtain ⟨rfl,rfl⟩:=HRn.o (HNo.o (by first | trivial | rfl));clear HNo HAl EO;go_wp2_with fail
      (first | rw [Exit.noGoto_ret] | skip)
      go_ret2
      exact ⟨rfl,HS1.o.trans HS4.o⟩
     | true =>
      have HQb:=hid (Zt xb W4);rw [hb] at HQb HNo HAl;have Hb:=hid hb;clear hb;go_wp2_with fail;refine HQb.o.mono ?_;rintro e wb ⟨rfl,hwb⟩;have hwb:=hwb.symm;subst hwb;clear HQb;have HTe:=hid (Mp ⟨2,xa,xb⟩ Ha.o Hb.o W4 (HT.o.sT (HS1.o.trans HS4.o)) (HK.o.sT (HS1.o.trans HS4.o)));have HLn:Hid (lnS ⟨2,xa,xb⟩=((ltS xa.toNat ++ ⟨#[32,104,105,116,32,98,121,32]⟩) ++ ltS xb.toNat)):=hid rfl;dsimp only at HTe;rw [<- HLn.o] at HTe;obtain ⟨l,el⟩:∃ l,lnS ⟨2,xa,xb⟩=l:=⟨_,rfl⟩;rw [el] at HTe HSt;clear el HLn;have HA1:Hid ((L.take (i+1)).all okN=true):=hid (by rw [HAl.o,HA.o]; rfl);clear HAl HNo EO;go_wp2_with fail;refine HTe.o.mono ?_;rintro e w5 ⟨rfl,h5⟩;have A6:=aL w5 (.cells #[.string l] 9);have HO6:=hid (HO.o.sT (HS4x.o.trans (h5.trans A6)));have HS6:=hid (HS4.o.trans (h5.trans A6));have HY6:=hid (Vb (show (w5.alloc (.cells #[.string l] 9)).heap[w5.heap.size]?=some (.cells #[.string l] 9 (0,0)) from heap_alloc_new w5 _));have HB6:Hid (w1.heap.size<=(w5.alloc (.cells #[.string l] 9)).heap.size):=hid HS6.o.size;have HL4:Hid ((LL.length+[l].length)*16<=140737488355328):=hid (by have:=HLe.o; simp only [List.length_cons,List.length_nil]; omega);have HL5:Hid (LL.length+[l].length<=281474976710656):=hid (by have:=HLe.o; simp only [List.length_cons,List.length_nil]; omega);clear A6 h5 HTe m0 m1 m2 m3 mf n0 n1 n2 nf;go_wp2_with (
       at_builtin;refine Xu KSt _ rfl _ _ 66 rfl Tryz.underlying66 16 (.string ⟨#[]⟩) rfl Xv w1.heap.size (.slice lo LL.length lcp) LL [l] (some ⟨w5.heap.size,0,none⟩) 1 1 rfl rfl rfl HO6.o HY6.o HL4.o HL5.o HB6.o ?_;intro v' w' ho' hf';have HO9:=hid ho';have HF9:=hid hf';clear ho' hf')
      go_roundw;case rel=>exact ⟨i+1,by omega,by go_num,by rw [HSt.o]; exact HO9.o,HA1,Zy HS6.o HO6.o HF9.o (Nat.le_refl _)⟩
      case measure=>first | (simp [intOf]; done) | (simp [intOf]; omega)
   ·have HRo:Hid (Ya 36 #[.slice (some ⟨rb,0,none⟩) 8 8,.int .i64 3] W2 (.tuple #[.agg #[.int .i64 3,Value.func (.func 75) #[] #[],Value.func (.func 75) #[] #[],Value.func (.func 79) #[] #[]],.bool true])):=hid (VP 2 (by decide) _ 8 W2 HRw2.o);have EO:=hid (MN xa xb);rw [EO.o] at HAl HNo;go_wp2_with fail;refine HRo.o.mono ?_;rintro e w3 ⟨rfl,h3⟩;have A4:=aL w3 (.cells #[.int .i64 3,Value.func (.func 75) #[] #[],Value.func (.func 75) #[] #[],Value.func (.func 79) #[] #[]] 92);have p4:Rwb (w3.alloc (.cells #[.int .i64 3,Value.func (.func 75) #[] #[],Value.func (.func 75) #[] #[],Value.func (.func 79) #[] #[]] 92)) w3.heap.size (.int .i64 3) (Value.func (.func 75) #[] #[]) (Value.func (.func 75) #[] #[]) (Value.func (.func 79) #[] #[]):=heap_alloc_new w3 _;have HP4:=hid (HP2.o.sT (h3.trans A4));have HS4:=hid (HS2.o.trans (h3.trans A4));have HS4x:=hid (HS2x.o.trans (h3.trans A4));obtain ⟨W4,eW4⟩:∃ X,w3.alloc (.cells #[.int .i64 3,Value.func (.func 75) #[] #[],Value.func (.func 75) #[] #[],Value.func (.func 79) #[] #[]] 92)=X:=⟨_,rfl⟩;rw [eW4] at p4 HP4 HS4 HS4x;obtain ⟨m0,m1,m2,m3,mf⟩:=p4.cells;clear n0 n1 n2 nf c0 c1 c2 h3 A4 p4 HRo eW2;obtain ⟨n0,n1,n2,nf⟩:=HP4.o.cells;cases ha:Yu xa with
    | false =>
     have HQa:=hid (Zt xa W4);rw [ha] at HQa HNo HAl
     (try rw [Bool.false_and] at HNo HAl)
     go_wp2_with fail;refine HQa.o.mono ?_;rintro e wa ⟨rfl,hwa⟩;have hwa:=hwa.symm;subst hwa;clear HQa;obtain ⟨rfl,rfl⟩:=HRn.o (HNo.o (by first | trivial | rfl));clear HNo HAl EO;go_wp2_with fail
     (first | rw [Exit.noGoto_ret] | skip)
     go_ret2
     exact ⟨rfl,HS1.o.trans HS4.o⟩
    | true =>
     have HQa:=hid (Zt xa W4);rw [ha] at HQa HNo HAl
     (try rw [Bool.true_and] at HNo HAl)
     have Ha:=hid ha;clear ha;go_wp2_with fail;refine HQa.o.mono ?_;rintro e wa ⟨rfl,hwa⟩;have hwa:=hwa.symm;subst hwa;clear HQa;cases hb:Yu xb with
     | false =>
      have HQb:=hid (Zt xb W4);rw [hb] at HQb HNo HAl;go_wp2_with fail;refine HQb.o.mono ?_;rintro e wb ⟨rfl,hwb⟩;have hwb:=hwb.symm;subst hwb;clear HQb;obtain ⟨rfl,rfl⟩:=HRn.o (HNo.o (by first | trivial | rfl));clear HNo HAl EO;go_wp2_with fail
      (first | rw [Exit.noGoto_ret] | skip)
      go_ret2
      exact ⟨rfl,HS1.o.trans HS4.o⟩
     | true =>
      have HQb:=hid (Zt xb W4);rw [hb] at HQb HNo HAl;have Hb:=hid hb;clear hb;go_wp2_with fail;refine HQb.o.mono ?_;rintro e wb ⟨rfl,hwb⟩;have hwb:=hwb.symm;subst hwb;clear HQb;have HTe:=hid (Mq ⟨3,xa,xb⟩ Ha.o Hb.o W4 (HT.o.sT (HS1.o.trans HS4.o)) (HK.o.sT (HS1.o.trans HS4.o)));have HLn:Hid (lnS ⟨3,xa,xb⟩=((ltS xa.toNat ++ ⟨#[32,111,117,116,32,98,121,32]⟩) ++ ltS xb.toNat)):=hid rfl;dsimp only at HTe;rw [<- HLn.o] at HTe;obtain ⟨l,el⟩:∃ l,lnS ⟨3,xa,xb⟩=l:=⟨_,rfl⟩;rw [el] at HTe HSt;clear el HLn;have HA1:Hid ((L.take (i+1)).all okN=true):=hid (by rw [HAl.o,HA.o]; rfl);clear HAl HNo EO;go_wp2_with fail;refine HTe.o.mono ?_;rintro e w5 ⟨rfl,h5⟩;have A6:=aL w5 (.cells #[.string l] 9);have HO6:=hid (HO.o.sT (HS4x.o.trans (h5.trans A6)));have HS6:=hid (HS4.o.trans (h5.trans A6));have HY6:=hid (Vb (show (w5.alloc (.cells #[.string l] 9)).heap[w5.heap.size]?=some (.cells #[.string l] 9 (0,0)) from heap_alloc_new w5 _));have HB6:Hid (w1.heap.size<=(w5.alloc (.cells #[.string l] 9)).heap.size):=hid HS6.o.size;have HL4:Hid ((LL.length+[l].length)*16<=140737488355328):=hid (by have:=HLe.o; simp only [List.length_cons,List.length_nil]; omega);have HL5:Hid (LL.length+[l].length<=281474976710656):=hid (by have:=HLe.o; simp only [List.length_cons,List.length_nil]; omega);clear A6 h5 HTe m0 m1 m2 m3 mf n0 n1 n2 nf;go_wp2_with (
       at_builtin;refine Xu KSt _ rfl _ _ 66 rfl Tryz.underlying66 16 (.string ⟨#[]⟩) rfl Xv w1.heap.size (.slice lo LL.length lcp) LL [l] (some ⟨w5.heap.size,0,none⟩) 1 1 rfl rfl rfl HO6.o HY6.o HL4.o HL5.o HB6.o ?_;intro v' w' ho' hf';have HO9:=hid ho';have HF9:=hid hf';clear ho' hf')
      go_roundw;case rel=>exact ⟨i+1,by omega,by go_num,by rw [HSt.o]; exact HO9.o,HA1,Zy HS6.o HO6.o HF9.o (Nat.le_refl _)⟩
      case measure=>first | (simp [intOf]; done) | (simp [intOf]; omega)
   ·have HRo:Hid (Ya 36 #[.slice (some ⟨rb,0,none⟩) 8 8,.int .i64 4] W2 (.tuple #[.agg #[.int .i64 4,Value.func (.func 75) #[] #[],Value.func (.func 76) #[] #[],Value.func (.func 80) #[] #[]],.bool true])):=hid (VP 3 (by decide) _ 8 W2 HRw2.o);have EO:=hid (MO xa xb);rw [EO.o] at HAl HNo;go_wp2_with fail;refine HRo.o.mono ?_;rintro e w3 ⟨rfl,h3⟩;have A4:=aL w3 (.cells #[.int .i64 4,Value.func (.func 75) #[] #[],Value.func (.func 76) #[] #[],Value.func (.func 80) #[] #[]] 92);have p4:Rwb (w3.alloc (.cells #[.int .i64 4,Value.func (.func 75) #[] #[],Value.func (.func 76) #[] #[],Value.func (.func 80) #[] #[]] 92)) w3.heap.size (.int .i64 4) (Value.func (.func 75) #[] #[]) (Value.func (.func 76) #[] #[]) (Value.func (.func 80) #[] #[]):=heap_alloc_new w3 _;have HP4:=hid (HP2.o.sT (h3.trans A4));have HS4:=hid (HS2.o.trans (h3.trans A4));have HS4x:=hid (HS2x.o.trans (h3.trans A4));obtain ⟨W4,eW4⟩:∃ X,w3.alloc (.cells #[.int .i64 4,Value.func (.func 75) #[] #[],Value.func (.func 76) #[] #[],Value.func (.func 80) #[] #[]] 92)=X:=⟨_,rfl⟩;rw [eW4] at p4 HP4 HS4 HS4x;obtain ⟨m0,m1,m2,m3,mf⟩:=p4.cells;clear n0 n1 n2 nf c0 c1 c2 h3 A4 p4 HRo eW2;obtain ⟨n0,n1,n2,nf⟩:=HP4.o.cells;cases ha:Yu xa with
    | false =>
     have HQa:=hid (Zt xa W4);rw [ha] at HQa HNo HAl
     (try rw [Bool.false_and] at HNo HAl)
     go_wp2_with fail;refine HQa.o.mono ?_;rintro e wa ⟨rfl,hwa⟩;have hwa:=hwa.symm;subst hwa;clear HQa;obtain ⟨rfl,rfl⟩:=HRn.o (HNo.o (by first | trivial | rfl));clear HNo HAl EO;go_wp2_with fail
     (first | rw [Exit.noGoto_ret] | skip)
     go_ret2
     exact ⟨rfl,HS1.o.trans HS4.o⟩
    | true =>
     have HQa:=hid (Zt xa W4);rw [ha] at HQa HNo HAl
     (try rw [Bool.true_and] at HNo HAl)
     have Ha:=hid ha;clear ha;go_wp2_with fail;refine HQa.o.mono ?_;rintro e wa ⟨rfl,hwa⟩;have hwa:=hwa.symm;subst hwa;clear HQa;have HQb:=hid (Kp xb W4);go_wp2_with fail;refine HQb.o.mono ?_;rintro e wb ⟨rfl,hwb⟩;have hwb:=hwb.symm;subst hwb;clear HQb;have HTe:=hid (Mr ⟨4,xa,xb⟩ Ha.o W4 (HT.o.sT (HS1.o.trans HS4.o)) (HK.o.sT (HS1.o.trans HS4.o)));have HLn:Hid (lnS ⟨4,xa,xb⟩=(ltS xa.toNat ++ ⟨#[32,98,97,99,107]⟩)):=hid rfl;dsimp only at HTe;rw [<- HLn.o] at HTe;obtain ⟨l,el⟩:∃ l,lnS ⟨4,xa,xb⟩=l:=⟨_,rfl⟩;rw [el] at HTe HSt;clear el HLn;have HA1:Hid ((L.take (i+1)).all okN=true):=hid (by rw [HAl.o,HA.o]; rfl);clear HAl HNo EO;go_wp2_with fail;refine HTe.o.mono ?_;rintro e w5 ⟨rfl,h5⟩;have A6:=aL w5 (.cells #[.string l] 9);have HO6:=hid (HO.o.sT (HS4x.o.trans (h5.trans A6)));have HS6:=hid (HS4.o.trans (h5.trans A6));have HY6:=hid (Vb (show (w5.alloc (.cells #[.string l] 9)).heap[w5.heap.size]?=some (.cells #[.string l] 9 (0,0)) from heap_alloc_new w5 _));have HB6:Hid (w1.heap.size<=(w5.alloc (.cells #[.string l] 9)).heap.size):=hid HS6.o.size;have HL4:Hid ((LL.length+[l].length)*16<=140737488355328):=hid (by have:=HLe.o; simp only [List.length_cons,List.length_nil]; omega);have HL5:Hid (LL.length+[l].length<=281474976710656):=hid (by have:=HLe.o; simp only [List.length_cons,List.length_nil]; omega);clear A6 h5 HTe m0 m1 m2 m3 mf n0 n1 n2 nf;go_wp2_with (
      at_builtin;refine Xu KSt _ rfl _ _ 66 rfl Tryz.underlying66 16 (.string ⟨#[]⟩) rfl Xv w1.heap.size (.slice lo LL.length lcp) LL [l] (some ⟨w5.heap.size,0,none⟩) 1 1 rfl rfl rfl HO6.o HY6.o HL4.o HL5.o HB6.o ?_;intro v' w' ho' hf';have HO9:=hid ho';have HF9:=hid hf';clear ho' hf')
     go_roundw;case rel=>exact ⟨i+1,by omega,by go_num,by rw [HSt.o]; exact HO9.o,HA1,Zy HS6.o HO6.o HF9.o (Nat.le_refl _)⟩
     case measure=>first | (simp [intOf]; done) | (simp [intOf]; omega)
   ·have HRo:Hid (Ya 36 #[.slice (some ⟨rb,0,none⟩) 8 8,.int .i64 5] W2 (.tuple #[.agg #[.int .i64 5,Value.func (.func 75) #[] #[],Value.func (.func 81) #[] #[],Value.func (.func 82) #[] #[]],.bool true])):=hid (VP 4 (by decide) _ 8 W2 HRw2.o);have EO:=hid (MP xa xb);rw [EO.o] at HAl HNo;go_wp2_with fail;refine HRo.o.mono ?_;rintro e w3 ⟨rfl,h3⟩;have A4:=aL w3 (.cells #[.int .i64 5,Value.func (.func 75) #[] #[],Value.func (.func 81) #[] #[],Value.func (.func 82) #[] #[]] 92);have p4:Rwb (w3.alloc (.cells #[.int .i64 5,Value.func (.func 75) #[] #[],Value.func (.func 81) #[] #[],Value.func (.func 82) #[] #[]] 92)) w3.heap.size (.int .i64 5) (Value.func (.func 75) #[] #[]) (Value.func (.func 81) #[] #[]) (Value.func (.func 82) #[] #[]):=heap_alloc_new w3 _;have HP4:=hid (HP2.o.sT (h3.trans A4));have HS4:=hid (HS2.o.trans (h3.trans A4));have HS4x:=hid (HS2x.o.trans (h3.trans A4));obtain ⟨W4,eW4⟩:∃ X,w3.alloc (.cells #[.int .i64 5,Value.func (.func 75) #[] #[],Value.func (.func 81) #[] #[],Value.func (.func 82) #[] #[]] 92)=X:=⟨_,rfl⟩;rw [eW4] at p4 HP4 HS4 HS4x;obtain ⟨m0,m1,m2,m3,mf⟩:=p4.cells;clear n0 n1 n2 nf c0 c1 c2 h3 A4 p4 HRo eW2;obtain ⟨n0,n1,n2,nf⟩:=HP4.o.cells;cases ha:Yu xa with
    | false =>
     have HQa:=hid (Zt xa W4);rw [ha] at HQa HNo HAl
     (try rw [Bool.false_and] at HNo HAl)
     go_wp2_with fail;refine HQa.o.mono ?_;rintro e wa ⟨rfl,hwa⟩;have hwa:=hwa.symm;subst hwa;clear HQa;obtain ⟨rfl,rfl⟩:=HRn.o (HNo.o (by first | trivial | rfl));clear HNo HAl EO;go_wp2_with fail
     (first | rw [Exit.noGoto_ret] | skip)
     go_ret2
     exact ⟨rfl,HS1.o.trans HS4.o⟩
    | true =>
     have HQa:=hid (Zt xa W4);rw [ha] at HQa HNo HAl
     (try rw [Bool.true_and] at HNo HAl)
     have Ha:=hid ha;clear ha;go_wp2_with fail;refine HQa.o.mono ?_;rintro e wa ⟨rfl,hwa⟩;have hwa:=hwa.symm;subst hwa;clear HQa;cases hb:ZM xb with
     | false =>
      have HQb:=hid (Kq xb W4);rw [hb] at HQb HNo HAl;go_wp2_with fail;refine HQb.o.mono ?_;rintro e wb ⟨rfl,hwb⟩;have hwb:=hwb.symm;subst hwb;clear HQb;obtain ⟨rfl,rfl⟩:=HRn.o (HNo.o (by first | trivial | rfl));clear HNo HAl EO;go_wp2_with fail
      (first | rw [Exit.noGoto_ret] | skip)
      go_ret2
      exact ⟨rfl,HS1.o.trans HS4.o⟩
     | true =>
      have HQb:=hid (Kq xb W4);rw [hb] at HQb HNo HAl;have Hb:=hid hb;clear hb;go_wp2_with fail;refine HQb.o.mono ?_;rintro e wb ⟨rfl,hwb⟩;have hwb:=hwb.symm;subst hwb;clear HQb;have HTe:=hid (Ms ⟨5,xa,xb⟩ Ha.o Hb.o W4 (HT.o.sT (HS1.o.trans HS4.o)) (HK.o.sT (HS1.o.trans HS4.o)));have HLn:Hid (lnS ⟨5,xa,xb⟩=((ltS xa.toNat ++ ⟨#[32,116,111,111,107,32]⟩) ++ ZD xb)):=hid rfl;dsimp only at HTe;rw [<- HLn.o] at HTe;obtain ⟨l,el⟩:∃ l,lnS ⟨5,xa,xb⟩=l:=⟨_,rfl⟩;rw [el] at HTe HSt;clear el HLn;have HA1:Hid ((L.take (i+1)).all okN=true):=hid (by rw [HAl.o,HA.o]; rfl);clear HAl HNo EO;go_wp2_with fail;refine HTe.o.mono ?_;rintro e w5 ⟨rfl,h5⟩;have A6:=aL w5 (.cells #[.string l] 9);have HO6:=hid (HO.o.sT (HS4x.o.trans (h5.trans A6)));have HS6:=hid (HS4.o.trans (h5.trans A6));have HY6:=hid (Vb (show (w5.alloc (.cells #[.string l] 9)).heap[w5.heap.size]?=some (.cells #[.string l] 9 (0,0)) from heap_alloc_new w5 _));have HB6:Hid (w1.heap.size<=(w5.alloc (.cells #[.string l] 9)).heap.size):=hid HS6.o.size;have HL4:Hid ((LL.length+[l].length)*16<=140737488355328):=hid (by have:=HLe.o; simp only [List.length_cons,List.length_nil]; omega);have HL5:Hid (LL.length+[l].length<=281474976710656):=hid (by have:=HLe.o; simp only [List.length_cons,List.length_nil]; omega);clear A6 h5 HTe m0 m1 m2 m3 mf n0 n1 n2 nf;go_wp2_with (
       at_builtin;refine Xu KSt _ rfl _ _ 66 rfl Tryz.underlying66 16 (.string ⟨#[]⟩) rfl Xv w1.heap.size (.slice lo LL.length lcp) LL [l] (some ⟨w5.heap.size,0,none⟩) 1 1 rfl rfl rfl HO6.o HY6.o HL4.o HL5.o HB6.o ?_;intro v' w' ho' hf';have HO9:=hid ho';have HF9:=hid hf';clear ho' hf')
      go_roundw;case rel=>exact ⟨i+1,by omega,by go_num,by rw [HSt.o]; exact HO9.o,HA1,Zy HS6.o HO6.o HF9.o (Nat.le_refl _)⟩
      case measure=>first | (simp [intOf]; done) | (simp [intOf]; omega)
   ·have HRo:Hid (Ya 36 #[.slice (some ⟨rb,0,none⟩) 8 8,.int .i64 6] W2 (.tuple #[.agg #[.int .i64 6,Value.func (.func 76) #[] #[],Value.func (.func 81) #[] #[],Value.func (.func 83) #[] #[]],.bool true])):=hid (VP 5 (by decide) _ 8 W2 HRw2.o);have EO:=hid (MQ xa xb);rw [EO.o] at HAl HNo;go_wp2_with fail;refine HRo.o.mono ?_;rintro e w3 ⟨rfl,h3⟩;have A4:=aL w3 (.cells #[.int .i64 6,Value.func (.func 76) #[] #[],Value.func (.func 81) #[] #[],Value.func (.func 83) #[] #[]] 92);have p4:Rwb (w3.alloc (.cells #[.int .i64 6,Value.func (.func 76) #[] #[],Value.func (.func 81) #[] #[],Value.func (.func 83) #[] #[]] 92)) w3.heap.size (.int .i64 6) (Value.func (.func 76) #[] #[]) (Value.func (.func 81) #[] #[]) (Value.func (.func 83) #[] #[]):=heap_alloc_new w3 _;have HP4:=hid (HP2.o.sT (h3.trans A4));have HS4:=hid (HS2.o.trans (h3.trans A4));have HS4x:=hid (HS2x.o.trans (h3.trans A4));obtain ⟨W4,eW4⟩:∃ X,w3.alloc (.cells #[.int .i64 6,Value.func (.func 76) #[] #[],Value.func (.func 81) #[] #[],Value.func (.func 83) #[] #[]] 92)=X:=⟨_,rfl⟩;rw [eW4] at p4 HP4 HS4 HS4x;obtain ⟨m0,m1,m2,m3,mf⟩:=p4.cells;clear n0 n1 n2 nf c0 c1 c2 h3 A4 p4 HRo eW2;obtain ⟨n0,n1,n2,nf⟩:=HP4.o.cells;have HQa:=hid (Kp xa W4);go_wp2_with fail;refine HQa.o.mono ?_;rintro e wa ⟨rfl,hwa⟩;have hwa:=hwa.symm;subst hwa;clear HQa;cases hb:ZM xb with
    | false =>
     have HQb:=hid (Kq xb W4);rw [hb] at HQb HNo HAl;go_wp2_with fail;refine HQb.o.mono ?_;rintro e wb ⟨rfl,hwb⟩;have hwb:=hwb.symm;subst hwb;clear HQb;obtain ⟨rfl,rfl⟩:=HRn.o (HNo.o (by first | trivial | rfl));clear HNo HAl EO;go_wp2_with fail
     (first | rw [Exit.noGoto_ret] | skip)
     go_ret2
     exact ⟨rfl,HS1.o.trans HS4.o⟩
    | true =>
     have HQb:=hid (Kq xb W4);rw [hb] at HQb HNo HAl;have Hb:=hid hb;clear hb;go_wp2_with fail;refine HQb.o.mono ?_;rintro e wb ⟨rfl,hwb⟩;have hwb:=hwb.symm;subst hwb;clear HQb;have HTe:=hid (Mt ⟨6,xa,xb⟩ HXx.o.1 Hb.o W4 (HT.o.sT (HS1.o.trans HS4.o)) (HK.o.sT (HS1.o.trans HS4.o)));have HLn:Hid (lnS ⟨6,xa,xb⟩=((((⟨#[115,112,111,116,32]⟩:ByteArray) ++ itS xa) ++ ⟨#[32]⟩) ++ ZD xb)):=hid rfl;dsimp only at HTe;rw [<- HLn.o] at HTe;obtain ⟨l,el⟩:∃ l,lnS ⟨6,xa,xb⟩=l:=⟨_,rfl⟩;rw [el] at HTe HSt;clear el HLn;have HA1:Hid ((L.take (i+1)).all okN=true):=hid (by rw [HAl.o,HA.o]; rfl);clear HAl HNo EO;go_wp2_with fail;refine HTe.o.mono ?_;rintro e w5 ⟨rfl,h5⟩;have A6:=aL w5 (.cells #[.string l] 9);have HO6:=hid (HO.o.sT (HS4x.o.trans (h5.trans A6)));have HS6:=hid (HS4.o.trans (h5.trans A6));have HY6:=hid (Vb (show (w5.alloc (.cells #[.string l] 9)).heap[w5.heap.size]?=some (.cells #[.string l] 9 (0,0)) from heap_alloc_new w5 _));have HB6:Hid (w1.heap.size<=(w5.alloc (.cells #[.string l] 9)).heap.size):=hid HS6.o.size;have HL4:Hid ((LL.length+[l].length)*16<=140737488355328):=hid (by have:=HLe.o; simp only [List.length_cons,List.length_nil]; omega);have HL5:Hid (LL.length+[l].length<=281474976710656):=hid (by have:=HLe.o; simp only [List.length_cons,List.length_nil]; omega);clear A6 h5 HTe m0 m1 m2 m3 mf n0 n1 n2 nf;go_wp2_with (
      at_builtin;refine Xu KSt _ rfl _ _ 66 rfl Tryz.underlying66 16 (.string ⟨#[]⟩) rfl Xv w1.heap.size (.slice lo LL.length lcp) LL [l] (some ⟨w5.heap.size,0,none⟩) 1 1 rfl rfl rfl HO6.o HY6.o HL4.o HL5.o HB6.o ?_;intro v' w' ho' hf';have HO9:=hid ho';have HF9:=hid hf';clear ho' hf')
     go_roundw;case rel=>exact ⟨i+1,by omega,by go_num,by rw [HSt.o]; exact HO9.o,HA1,Zy HS6.o HO6.o HF9.o (Nat.le_refl _)⟩
     case measure=>first | (simp [intOf]; done) | (simp [intOf]; omega)
   ·have HRo:Hid (Ya 36 #[.slice (some ⟨rb,0,none⟩) 8 8,.int .i64 7] W2 (.tuple #[.agg #[.int .i64 7,Value.func (.func 75) #[] #[],Value.func (.func 75) #[] #[],Value.func (.func 84) #[] #[]],.bool true])):=hid (VP 6 (by decide) _ 8 W2 HRw2.o);have EO:=hid (MR xa xb);rw [EO.o] at HAl HNo;go_wp2_with fail;refine HRo.o.mono ?_;rintro e w3 ⟨rfl,h3⟩;have A4:=aL w3 (.cells #[.int .i64 7,Value.func (.func 75) #[] #[],Value.func (.func 75) #[] #[],Value.func (.func 84) #[] #[]] 92);have p4:Rwb (w3.alloc (.cells #[.int .i64 7,Value.func (.func 75) #[] #[],Value.func (.func 75) #[] #[],Value.func (.func 84) #[] #[]] 92)) w3.heap.size (.int .i64 7) (Value.func (.func 75) #[] #[]) (Value.func (.func 75) #[] #[]) (Value.func (.func 84) #[] #[]):=heap_alloc_new w3 _;have HP4:=hid (HP2.o.sT (h3.trans A4));have HS4:=hid (HS2.o.trans (h3.trans A4));have HS4x:=hid (HS2x.o.trans (h3.trans A4));obtain ⟨W4,eW4⟩:∃ X,w3.alloc (.cells #[.int .i64 7,Value.func (.func 75) #[] #[],Value.func (.func 75) #[] #[],Value.func (.func 84) #[] #[]] 92)=X:=⟨_,rfl⟩;rw [eW4] at p4 HP4 HS4 HS4x;obtain ⟨m0,m1,m2,m3,mf⟩:=p4.cells;clear n0 n1 n2 nf c0 c1 c2 h3 A4 p4 HRo eW2;obtain ⟨n0,n1,n2,nf⟩:=HP4.o.cells;cases ha:Yu xa with
    | false =>
     have HQa:=hid (Zt xa W4);rw [ha] at HQa HNo HAl
     (try rw [Bool.false_and] at HNo HAl)
     go_wp2_with fail;refine HQa.o.mono ?_;rintro e wa ⟨rfl,hwa⟩;have hwa:=hwa.symm;subst hwa;clear HQa;obtain ⟨rfl,rfl⟩:=HRn.o (HNo.o (by first | trivial | rfl));clear HNo HAl EO;go_wp2_with fail
     (first | rw [Exit.noGoto_ret] | skip)
     go_ret2
     exact ⟨rfl,HS1.o.trans HS4.o⟩
    | true =>
     have HQa:=hid (Zt xa W4);rw [ha] at HQa HNo HAl
     (try rw [Bool.true_and] at HNo HAl)
     have Ha:=hid ha;clear ha;go_wp2_with fail;refine HQa.o.mono ?_;rintro e wa ⟨rfl,hwa⟩;have hwa:=hwa.symm;subst hwa;clear HQa;cases hb:Yu xb with
     | false =>
      have HQb:=hid (Zt xb W4);rw [hb] at HQb HNo HAl;go_wp2_with fail;refine HQb.o.mono ?_;rintro e wb ⟨rfl,hwb⟩;have hwb:=hwb.symm;subst hwb;clear HQb;obtain ⟨rfl,rfl⟩:=HRn.o (HNo.o (by first | trivial | rfl));clear HNo HAl EO;go_wp2_with fail
      (first | rw [Exit.noGoto_ret] | skip)
      go_ret2
      exact ⟨rfl,HS1.o.trans HS4.o⟩
     | true =>
      have HQb:=hid (Zt xb W4);rw [hb] at HQb HNo HAl;have Hb:=hid hb;clear hb;go_wp2_with fail;refine HQb.o.mono ?_;rintro e wb ⟨rfl,hwb⟩;have hwb:=hwb.symm;subst hwb;clear HQb;have HTe:=hid (Mu ⟨7,xa,xb⟩ Ha.o Hb.o W4 (HT.o.sT (HS1.o.trans HS4.o)) (HK.o.sT (HS1.o.trans HS4.o)));have HLn:Hid (lnS ⟨7,xa,xb⟩=((ltS xa.toNat ++ ⟨#[32,98,111,117,110,99,101,115,32]⟩) ++ ltS xb.toNat)):=hid rfl;dsimp only at HTe;rw [<- HLn.o] at HTe;obtain ⟨l,el⟩:∃ l,lnS ⟨7,xa,xb⟩=l:=⟨_,rfl⟩;rw [el] at HTe HSt;clear el HLn;have HA1:Hid ((L.take (i+1)).all okN=true):=hid (by rw [HAl.o,HA.o]; rfl);clear HAl HNo EO;go_wp2_with fail;refine HTe.o.mono ?_;rintro e w5 ⟨rfl,h5⟩;have A6:=aL w5 (.cells #[.string l] 9);have HO6:=hid (HO.o.sT (HS4x.o.trans (h5.trans A6)));have HS6:=hid (HS4.o.trans (h5.trans A6));have HY6:=hid (Vb (show (w5.alloc (.cells #[.string l] 9)).heap[w5.heap.size]?=some (.cells #[.string l] 9 (0,0)) from heap_alloc_new w5 _));have HB6:Hid (w1.heap.size<=(w5.alloc (.cells #[.string l] 9)).heap.size):=hid HS6.o.size;have HL4:Hid ((LL.length+[l].length)*16<=140737488355328):=hid (by have:=HLe.o; simp only [List.length_cons,List.length_nil]; omega);have HL5:Hid (LL.length+[l].length<=281474976710656):=hid (by have:=HLe.o; simp only [List.length_cons,List.length_nil]; omega);clear A6 h5 HTe m0 m1 m2 m3 mf n0 n1 n2 nf;go_wp2_with (
       at_builtin;refine Xu KSt _ rfl _ _ 66 rfl Tryz.underlying66 16 (.string ⟨#[]⟩) rfl Xv w1.heap.size (.slice lo LL.length lcp) LL [l] (some ⟨w5.heap.size,0,none⟩) 1 1 rfl rfl rfl HO6.o HY6.o HL4.o HL5.o HB6.o ?_;intro v' w' ho' hf';have HO9:=hid ho';have HF9:=hid hf';clear ho' hf')
      go_roundw;case rel=>exact ⟨i+1,by omega,by go_num,by rw [HSt.o]; exact HO9.o,HA1,Zy HS6.o HO6.o HF9.o (Nat.le_refl _)⟩
      case measure=>first | (simp [intOf]; done) | (simp [intOf]; omega)
   ·have HRo:Hid (Ya 36 #[.slice (some ⟨rb,0,none⟩) 8 8,.int .i64 8] W2 (.tuple #[.agg #[.int .i64 8,Value.func (.func 75) #[] #[],Value.func (.func 76) #[] #[],Value.func (.func 85) #[] #[]],.bool true])):=hid (VP 7 (by decide) _ 8 W2 HRw2.o);have EO:=hid (MS xa xb);rw [EO.o] at HAl HNo;go_wp2_with fail;refine HRo.o.mono ?_;rintro e w3 ⟨rfl,h3⟩;have A4:=aL w3 (.cells #[.int .i64 8,Value.func (.func 75) #[] #[],Value.func (.func 76) #[] #[],Value.func (.func 85) #[] #[]] 92);have p4:Rwb (w3.alloc (.cells #[.int .i64 8,Value.func (.func 75) #[] #[],Value.func (.func 76) #[] #[],Value.func (.func 85) #[] #[]] 92)) w3.heap.size (.int .i64 8) (Value.func (.func 75) #[] #[]) (Value.func (.func 76) #[] #[]) (Value.func (.func 85) #[] #[]):=heap_alloc_new w3 _;have HP4:=hid (HP2.o.sT (h3.trans A4));have HS4:=hid (HS2.o.trans (h3.trans A4));have HS4x:=hid (HS2x.o.trans (h3.trans A4));obtain ⟨W4,eW4⟩:∃ X,w3.alloc (.cells #[.int .i64 8,Value.func (.func 75) #[] #[],Value.func (.func 76) #[] #[],Value.func (.func 85) #[] #[]] 92)=X:=⟨_,rfl⟩;rw [eW4] at p4 HP4 HS4 HS4x;obtain ⟨m0,m1,m2,m3,mf⟩:=p4.cells;clear n0 n1 n2 nf c0 c1 c2 h3 A4 p4 HRo eW2;obtain ⟨n0,n1,n2,nf⟩:=HP4.o.cells;cases ha:Yu xa with
    | false =>
     have HQa:=hid (Zt xa W4);rw [ha] at HQa HNo HAl
     (try rw [Bool.false_and] at HNo HAl)
     go_wp2_with fail;refine HQa.o.mono ?_;rintro e wa ⟨rfl,hwa⟩;have hwa:=hwa.symm;subst hwa;clear HQa;obtain ⟨rfl,rfl⟩:=HRn.o (HNo.o (by first | trivial | rfl));clear HNo HAl EO;go_wp2_with fail
     (first | rw [Exit.noGoto_ret] | skip)
     go_ret2
     exact ⟨rfl,HS1.o.trans HS4.o⟩
    | true =>
     have HQa:=hid (Zt xa W4);rw [ha] at HQa HNo HAl
     (try rw [Bool.true_and] at HNo HAl)
     have Ha:=hid ha;clear ha;go_wp2_with fail;refine HQa.o.mono ?_;rintro e wa ⟨rfl,hwa⟩;have hwa:=hwa.symm;subst hwa;clear HQa;have HQb:=hid (Kp xb W4);go_wp2_with fail;refine HQb.o.mono ?_;rintro e wb ⟨rfl,hwb⟩;have hwb:=hwb.symm;subst hwb;clear HQb;have HTe:=hid (Mw ⟨8,xa,xb⟩ Ha.o HXx.o.2 W4 (HT.o.sT (HS1.o.trans HS4.o)) (HK.o.sT (HS1.o.trans HS4.o)));have HLn:Hid (lnS ⟨8,xa,xb⟩=((ltS xa.toNat ++ ⟨#[32,115,97,121,115,32]⟩) ++ itS xb)):=hid rfl;dsimp only at HTe;rw [<- HLn.o] at HTe;obtain ⟨l,el⟩:∃ l,lnS ⟨8,xa,xb⟩=l:=⟨_,rfl⟩;rw [el] at HTe HSt;clear el HLn;have HA1:Hid ((L.take (i+1)).all okN=true):=hid (by rw [HAl.o,HA.o]; rfl);clear HAl HNo EO;go_wp2_with fail;refine HTe.o.mono ?_;rintro e w5 ⟨rfl,h5⟩;have A6:=aL w5 (.cells #[.string l] 9);have HO6:=hid (HO.o.sT (HS4x.o.trans (h5.trans A6)));have HS6:=hid (HS4.o.trans (h5.trans A6));have HY6:=hid (Vb (show (w5.alloc (.cells #[.string l] 9)).heap[w5.heap.size]?=some (.cells #[.string l] 9 (0,0)) from heap_alloc_new w5 _));have HB6:Hid (w1.heap.size<=(w5.alloc (.cells #[.string l] 9)).heap.size):=hid HS6.o.size;have HL4:Hid ((LL.length+[l].length)*16<=140737488355328):=hid (by have:=HLe.o; simp only [List.length_cons,List.length_nil]; omega);have HL5:Hid (LL.length+[l].length<=281474976710656):=hid (by have:=HLe.o; simp only [List.length_cons,List.length_nil]; omega);clear A6 h5 HTe m0 m1 m2 m3 mf n0 n1 n2 nf;go_wp2_with (
      at_builtin;refine Xu KSt _ rfl _ _ 66 rfl Tryz.underlying66 16 (.string ⟨#[]⟩) rfl Xv w1.heap.size (.slice lo LL.length lcp) LL [l] (some ⟨w5.heap.size,0,none⟩) 1 1 rfl rfl rfl HO6.o HY6.o HL4.o HL5.o HB6.o ?_;intro v' w' ho' hf';have HO9:=hid ho';have HF9:=hid hf';clear ho' hf')
     go_roundw;case rel=>exact ⟨i+1,by omega,by go_num,by rw [HSt.o]; exact HO9.o,HA1,Zy HS6.o HO6.o HF9.o (Nat.le_refl _)⟩
     case measure=>first | (simp [intOf]; done) | (simp [intOf]; omega)
   ·have HRo:=hid (MJ xk hno _ 8 W2 HRw2.o);have EO:=hid (MT (a:=xa) (b:=xb) hno);obtain ⟨rfl,rfl⟩:=HRn.o (HNo.o EO.o);clear hno HAl HNo EO;go_wp2_with fail;refine HRo.o.mono ?_;rintro e w3 ⟨rfl,h3⟩;have A4:=aL w3 (.cells rwz 92);have HS4:=hid (HS2.o.trans (h3.trans A4));clear n0 n1 n2 nf c0 c1 c2 h3 A4 HRo eW2;go_wp2_with fail
    (first | rw [Exit.noGoto_ret] | skip)
    go_ret2
    exact ⟨rfl,HS1.o.trans HS4.o⟩
  ·have hge:¬ (i:Int)<(n:Int):=by omega
   obtain rfl:i=n:=by omega
   have HTk:Hid (L.take i=L):=hid (List.take_of_length_le (by have:=HL.o; omega));obtain ⟨e1,rfl⟩:=HRy.o (by rw [<- HTk.o]; exact HA.o);have HC:=hid (B8 ((L.take i).map lnS) (by
    rw [HTk.o,BI];have:=HZ.o L.length (Nat.le_refl _);rw [List.take_length] at this;have:=HL.o;omega) lo i lcp wr (by
    have h:=OwG.rd (L:=(L.take i).map lnS) (M:=[]) (by rw [List.append_nil]; exact HO.o) (by rw [HLe.o]; omega);rwa [HLe.o] at h))
   rw [HTk.o,BI,<- e1] at HC;rw [HLe.o];clear hs ho hin hlo e1;go_wp2_with fail;refine HC.o.mono ?_;rintro e w4 ⟨rfl,h4⟩;have HS4:=hid (HS1.o.trans (HS.o.trans h4));clear h4 HC;go_wp2_with fail;go_ret2
   exact ⟨rfl,HS4.o⟩
end Go.Proofs.YthcjckgmdokmdaaGreatDoor
namespace Go.Proofs.YthcjckgmdokmdaaGreatDoor
open Go.RowKit
open Pu Gp Np Za Ka Ja Ea Ha
set_option maxRecDepth 100000
theorem MW (x:World) (ht:PTabV x) (hk:KTab x):Q2 x where
 notes:=fun L ao n cap u hu hL hr _ hn=>MV L hL ao n cap u hr hn (ht.sT hu) (hk.sT hu)
 print:=fun c u hu hc=>My c hc u (ht.sT hu)
 cno:=fun f1 x1 f2 x2 ao bo co so p1 q1 r1 t1 ac bc cc sc' p2 p3 q2 q3 r2 r3 t2 t3 n1 n2 n3 n4 u _ h=>Ok f1 x1 f2 x2 ao bo co so p1 q1 r1 t1 ac bc cc sc' p2 p3 q2 q3 r2 r3 t2 t3 n1 n2 n3 n4 h u
 cyes:=fun f1 x1 f2 x2 ao bo co so p1 q1 r1 t1 ac bc cc sc' p2 p3 q2 q3 r2 r3 t2 t3 n M M' C C' u _ h1 h2 h3 h4 hi hi' hb=>Ol f1 x1 f2 x2 ao bo co so p1 q1 r1 t1 ac bc cc sc' p2 p3 q2 q3 r2 r3 t2 t3 n M M' C C' u h1 h2 h3 h4 hi hi' hb
end Go.Proofs.YthcjckgmdokmdaaGreatDoor
