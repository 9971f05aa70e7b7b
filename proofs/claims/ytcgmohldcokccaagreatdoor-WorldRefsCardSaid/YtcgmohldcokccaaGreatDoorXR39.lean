import Derived.Test.YtcgmohldcokccaaGreatDoorXR32
import Derived.Test.YtcgmohldcokccaaGreatDoorXR38
set_option linter.unusedVariables false
set_option maxHeartbeats 16000000
set_option maxRecDepth 100000
namespace Go.Proofs.YtcgmohldcokccaaGreatDoor
section
open Go.RowKit
open Pu Gp Ap Vp Np Za Ka Ja Ea Ha Hg Hi
theorem YaQ(F:Cf)(hz:F.s.size<=281474976710656)(v:Int)(hv:Zg F.C F.R F.s v)(x:World):A13 x F v (stV F.C F.s v) where
 chk u _:=(GG F.C F.R F.s hz u).mono fun e w' ⟨v',he,hv',hs⟩=>by
  rw[VX hv' hv]at he;exact⟨he,hs⟩
 sts u _:=(Tu F.C F.R F.s hz u).mono fun e w' ⟨a,v',he,hv',ho,hs⟩=>by
  rw[VX hv' hv]at ho;exact⟨a,he,ho,hs⟩
theorem YaR(p q C R:Int)(s:ByteArray)(lo:Option Addr)(ln lc:Nat)(st:List (Int × Int))(l:List Int)(w:World)(v:Int)(A:A13 w ⟨p,q,C,R,s,.slice lo ln lc⟩ v st)(hr:RdI w lo ln lc l)(hc:¬Zm p v st.length l) :
  Ya 17 #[.agg #[.int .i64 p,.int .u64 q,.int .i64 C,.int .i64 R,.string s,.slice lo ln lc]] w (.tuple #[.agg (Yf 0 0 (.slice none 0 0) (.slice none 0 0) (.slice none 0 0) (.slice none 0 0)),.int .i64 130]):=by
 have A0:=sA w (.cells #[.int .i64 p,.int .u64 q,.int .i64 C,.int .i64 R,.string s,.slice lo ln lc] 27);have A1:=sA (w.alloc (.cells #[.int .i64 p,.int .u64 q,.int .i64 C,.int .i64 R,.string s,.slice lo ln lc] 27)) (.cells (Yf 0 0 (.slice none 0 0) (.slice none 0 0) (.slice none 0 0) (.slice none 0 0)) 33);have p0:=(Xp w ⟨p,q,C,R,s,.slice lo ln lc⟩).sT A1;have z0:=Zw (w.alloc (.cells #[.int .i64 p,.int .u64 q,.int .i64 C,.int .i64 R,.string s,.slice lo ln lc] 27)) 0 0 (.slice none 0 0) (.slice none 0 0) (.slice none 0 0) (.slice none 0 0);rw[size_alloc]at z0;have HS0:=hid (A0.trans A1);have HP0:Hid (Cfb ((w.alloc (.cells #[.int .i64 p,.int .u64 q,.int .i64 C,.int .i64 R,.string s,.slice lo ln lc] 27)).alloc (.cells (Yf 0 0 (.slice none 0 0) (.slice none 0 0) (.slice none 0 0) (.slice none 0 0)) 33)) w.heap.size ⟨p,q,C,R,s,.slice lo ln lc⟩):=hid p0;have HZ0:Hid (Wdb ((w.alloc (.cells #[.int .i64 p,.int .u64 q,.int .i64 C,.int .i64 R,.string s,.slice lo ln lc] 27)).alloc (.cells (Yf 0 0 (.slice none 0 0) (.slice none 0 0) (.slice none 0 0) (.slice none 0 0)) 33)) (w.heap.size+1) 0 0 (.slice none 0 0) (.slice none 0 0) (.slice none 0 0) (.slice none 0 0)):=hid z0;have HOp:=hid (QP ⟨p,q,C,R,s,.slice lo ln lc⟩ v st l lo ln lc rfl ((w.alloc (.cells #[.int .i64 p,.int .u64 q,.int .i64 C,.int .i64 R,.string s,.slice lo ln lc] 27)).alloc (.cells (Yf 0 0 (.slice none 0 0) (.slice none 0 0) (.slice none 0 0) (.slice none 0 0)) 33)) (A.sT (A0.trans A1)) (hr.sT (A0.trans A1)));rw[XN (by exact hc)]at HOp;clear A hr hc A0 A1 p0 z0;obtain⟨W0,eW0⟩:∃X,((w.alloc (.cells #[.int .i64 p,.int .u64 q,.int .i64 C,.int .i64 R,.string s,.slice lo ln lc] 27)).alloc (.cells (Yf 0 0 (.slice none 0 0) (.slice none 0 0) (.slice none 0 0) (.slice none 0 0)) 33))=X:=⟨_,rfl⟩;rw[eW0]at HS0 HP0 HZ0 HOp;obtain⟨c0,c1,c2,c3,c4,c5,cf⟩:=HP0.o.cells;dsimp only at c0 c1 c2 c3 c4 c5;go_enter Tryz.func17,Tryz.ntmps17;go_wp2_with fail;refine HOp.o.mono ?_;rintro e w1 ⟨rfl,h1⟩;have HS1:=hid (HS0.o.trans h1);have HZ1:=hid (HZ0.o.sT h1);clear eW0 HOp c0 c1 c2 c3 c4 c5 cf h1 HS0 HP0 HZ0;obtain⟨z0,z1,z2,z3,z4,z5,zf⟩:=HZ1.o.cells;go_wp2_with fail;refine bodyPost_ret (Wdb.res2 (HZ1.o.put 0 0 _ _ _ _) rfl _ _ rfl rfl) rfl ⟨rfl,Uv HS1.o (by omega) _ _ _ _ _ _⟩
def YaS(w wr:World)(b5:Nat)(F:Cf)(so:Value)(st:List (Int × Int))(i:Nat):Prop:=∃va vc,Wdb wr b5 0 1 va vc (.slice none 0 0) (.slice none 0 0)/\OwG KM 59 wr w.heap.size va (nwM st i)/\OwG KC 67 wr w.heap.size vc (nwC i)/\OwG KT 57 wr w.heap.size so st/\Cfb wr w.heap.size F/\Wdb wr (w.heap.size+1) 0 0 (.slice none 0 0) (.slice none 0 0) (.slice none 0 0) (.slice none 0 0)/\Yc w wr
theorem YaT(N:Nat)(q C R:Int)(s:ByteArray)(lo:Option Addr)(ln lc:Nat)(E:Env)(l:List Int)(w:World)(v:Int)(A:A13 w ⟨(N:Int),q,C,R,s,.slice lo ln lc⟩ v E.st)(hr:RdI w lo ln lc l)(hc:Zm (N:Int) v E.st.length l) :
    Calls Tryz.prog 17 #[.agg #[.int .i64 (N:Int),.int .u64 q,.int .i64 C,.int .i64 R,.string s,.slice lo ln lc]] w fun e w'=>∃u,e=.returned (.tuple #[u,.int .i64 0])/\OwW w' w.heap.size u (nw0 E N)/\Yc w w':=by
  have A0:=sA w (.cells #[.int .i64 (N:Int),.int .u64 q,.int .i64 C,.int .i64 R,.string s,.slice lo ln lc] 27);have A1:=sA (w.alloc (.cells #[.int .i64 (N:Int),.int .u64 q,.int .i64 C,.int .i64 R,.string s,.slice lo ln lc] 27)) (.cells (Yf 0 0 (.slice none 0 0) (.slice none 0 0) (.slice none 0 0) (.slice none 0 0)) 33);have p0:=(Xp w ⟨(N:Int),q,C,R,s,.slice lo ln lc⟩).sT A1;have z0:=Zw (w.alloc (.cells #[.int .i64 (N:Int),.int .u64 q,.int .i64 C,.int .i64 R,.string s,.slice lo ln lc] 27)) 0 0 (.slice none 0 0) (.slice none 0 0) (.slice none 0 0) (.slice none 0 0);rw[size_alloc]at z0;have HS0:=hid (A0.trans A1);have HP0:=hid p0;have HZ0:Hid (Wdb ((w.alloc (.cells #[.int .i64 (N:Int),.int .u64 q,.int .i64 C,.int .i64 R,.string s,.slice lo ln lc] 27)).alloc (.cells (Yf 0 0 (.slice none 0 0) (.slice none 0 0) (.slice none 0 0) (.slice none 0 0)) 33)) (w.heap.size+1) 0 0 (.slice none 0 0) (.slice none 0 0) (.slice none 0 0) (.slice none 0 0)):=hid z0;have HOp:=hid (QP ⟨(N:Int),q,C,R,s,.slice lo ln lc⟩ v E.st l lo ln lc rfl ((w.alloc (.cells #[.int .i64 (N:Int),.int .u64 q,.int .i64 C,.int .i64 R,.string s,.slice lo ln lc] 27)).alloc (.cells (Yf 0 0 (.slice none 0 0) (.slice none 0 0) (.slice none 0 0) (.slice none 0 0)) 33)) (A.sT (A0.trans A1)) (hr.sT (A0.trans A1)));rw[Dg (by exact hc)]at HOp;have HA:=hid A;have HN:=hid (show N<=6/\N<=E.st.length by have:=hc.2.1;have:=hc.2.2.2.1;omega);obtain⟨W0,eW0⟩:∃X,((w.alloc (.cells #[.int .i64 (N:Int),.int .u64 q,.int .i64 C,.int .i64 R,.string s,.slice lo ln lc] 27)).alloc (.cells (Yf 0 0 (.slice none 0 0) (.slice none 0 0) (.slice none 0 0) (.slice none 0 0)) 33))=X:=⟨_,rfl⟩;rw[eW0]at HS0 HP0 HZ0 HOp;obtain⟨c0,c1,c2,c3,c4,c5,cf⟩:=HP0.o.cells;dsimp only at c0 c1 c2 c3 c4 c5;go_in
  go_wp21
  refine HOp.o.mono ?_;rintro e w1 ⟨rfl,h1⟩;have A2:=sA w1 (.cells (Yf 0 1 (.slice none 0 0) (.slice none 0 0) (.slice none 0 0) (.slice none 0 0)) 33);have h2:=h1.trans A2;have HS2:=hid (HS0.o.trans h2);have HZ2:=hid (HZ0.o.sT h2);have HP2:=hid (HP0.o.sT h2);have HW2:Hid (Wdb (w1.alloc (.cells (Yf 0 1 (.slice none 0 0) (.slice none 0 0) (.slice none 0 0) (.slice none 0 0)) 33)) w1.heap.size 0 1 (.slice none 0 0) (.slice none 0 0) (.slice none 0 0) (.slice none 0 0)):=hid (Zw w1 0 1 (.slice none 0 0) (.slice none 0 0) (.slice none 0 0) (.slice none 0 0));have HB:=hid (show w.heap.size+1<w1.heap.size from Nat.lt_of_lt_of_le (Yz HZ0.o) h1.size);obtain⟨W2,eW2⟩:∃X,w1.alloc (.cells (Yf 0 1 (.slice none 0 0) (.slice none 0 0) (.slice none 0 0) (.slice none 0 0)) 33)=X:=⟨_,rfl⟩;rw[eW2]at HS2 HZ2 HP2 HW2;obtain⟨b5,eb5⟩:∃k,w1.heap.size=k:=⟨_,rfl⟩;rw[eb5]at HW2 HB;obtain⟨c0,c1,c2,c3,c4,c5,cf⟩:=HP2.o.cells;dsimp only at c0 c1 c2 c3 c4 c5;go_wp21
  refine(HA.o.sts W2 HS2.o).mono ?_;rintro e w3 ⟨vs,rfl,ho3,h3⟩;obtain⟨so,sc,rfl,_⟩:=ho3.slice;have HT3:=hid (ho3.less HS2.o.size);have HS3:=hid (HS2.o.trans h3);have HZ3:=hid (HZ2.o.sT h3);have HP3:=hid (HP2.o.sT h3);have HW3:=hid (HW2.o.sT h3);obtain⟨sn,esn⟩:∃k,E.st.length=k:=⟨_,rfl⟩;rw[esn]at HT3⊢;have HSn:=hid esn;go_wp21
  go_loopw [7] (fun u wr=>∃i:Nat,i<=N/\u=.int .i64 (i:Int)/\YaS w wr b5 ⟨(N:Int),q,C,R,s,.slice lo ln lc⟩ (.slice so sn sc) E.st i) (fun u _=>N-(intOf u).toNat);case atStart=>exact⟨0,by omega,rfl,.slice none 0 0,.slice none 0 0,HW3.o,OwG.nil _ _,OwG.nil _ _,HT3.o,HP3.o,HZ3.o,HS3.o⟩
  case round =>
    obtain⟨i,hi,rfl,va,vc,hw,ho,hcs,hto,hp,hz,hs⟩:=hrel;obtain⟨c0,c1,c2,c3,c4,c5,cf⟩:=hp.cells;dsimp only at c0 c1 c2 c3 c4 c5;obtain⟨ao,cap,rfl,_⟩:=ho.slice;obtain⟨bo,bcap,rfl,_⟩:=hcs.slice;rw[Vi]at ho hw;rw[show(nwC i).length=i by simp[nwC]]at hcs hw;have HW:=hid hw;have HO:=hid ho;have HC:=hid hcs;have HT:=hid hto;have HP:=hid hp;have HZ:=hid hz;have HS:=hid hs;by_cases hin:i<N
    · have hlt:(i:Int)<(N:Int):=by omega
      obtain⟨gt,cpt,hv,hv1,hv2⟩:=hto.head (by have:=HN.o;omega);simp only[Value.slice.injEq]at hv;obtain⟨rfl,hv3,hv4⟩:=hv;have hsl:(i:Int)<(sn:Int):=by have:=HN.o;have:=HSn.o;omega
      obtain⟨n0,n1,nf⟩:=owT hto (i:=i) (by have:=HN.o;omega);obtain⟨x,ex⟩:∃x,pp E.st i=x:=⟨_,rfl⟩;obtain⟨y0,y1⟩:=x;have EX:=hid ex;rw[ex]at n0 n1;dsimp only at n0 n1;have hi6:i<6:=by have:=HN.o;omega
      have hmul:IntKind.i64.wrap (4*(i:Int))=4*(i:Int):=by rw[IntKind.wrap_i64];omega
      have HSt:=hid (fun u=>Lo y0 y1 (4*(i:Int)) u);obtain⟨m,em⟩:∃m,XH y0 y1 (4*(i:Int))=m:=⟨_,rfl⟩;have EM:=hid em;rw[em]at HSt;clear hw ho hcs hto hp hz hs hv1 hv2 hv3 hv4 ex em c1 c2 c3 c4 c5;go_wp21
      refine(HSt.o wr).mono ?_;rintro e w4 ⟨rfl,h4⟩;have A5:=sA w4 (.cells (mcs m) 59);have A6:=sA (w4.alloc (.cells (mcs m) 59)) (.cells (mcs m) 59);have hA:=(h4.trans A5).trans A6;have HO4:=hid (HO.o.sT hA);have HC4:=hid (HC.o.sT hA);have HT4:=hid (HT.o.sT hA);have HW4:=hid (HW.o.sT hA);have HP4:=hid (HP.o.sT hA);have HZ4:=hid (HZ.o.sT hA);have HS4:=hid (HS.o.trans hA);have mm0:=(show Mb (w4.alloc (.cells (mcs m) 59)) w4.heap.size m from heap_alloc_new w4 _);have HM:=hid mm0;have hW4a:=(HW.o.sT (h4.trans A5));have HY4:Hid (((w4.alloc (.cells (mcs m) 59)).alloc (.cells (mcs m) 59)).heap[w4.heap.size+1]?=some (.cells (mcs m) 59 (0,0))):=hid (by
        have h:=heap_alloc_new (w4.alloc (.cells (mcs m) 59)) (.cells (mcs m) 59);rw[size_alloc]at h;exact h)
      have HB4:Hid (w.heap.size<=((w4.alloc (.cells (mcs m) 59)).alloc (.cells (mcs m) 59)).heap.size):=hid HS4.o.size;have HL4:Hid (((nwM E.st i).length+1)*104<=140737488355328):=hid (by rw[Vi];omega);obtain⟨d0,d1,d2,d3,d4,d5,df⟩:=hW4a.cells;obtain⟨e0,e1,e2,e3,e4,e5,e6,e7,e8,e9,e10,e11,e12,ef⟩:=HM.o.cells;go_wp2_with (first
        | (at_builtin
           refine ZA KM _ rfl _ _ 28 rfl Tryz.underlying28 104 Qh w.heap.size (w4.heap.size+1) _ (nwM E.st i) m rfl rfl HO4.o HY4.o HL4.o (by have:=HL4.o;omega) HB4.o ?_;intro v' w' ho' hf';have hT:=HO4.o.frT (ts:=[59]) hf' (Nat.le_refl _) (by simp);have k1:Wdb w' b5 0 1 _ _ _ _:=hT.kept HW4.o (by decide);obtain⟨g',cap',rfl,_,_⟩:=ho'.head (by simp);have el:(nwM E.st i ++ [m]).length=i+1:=by simp[Vi]
           rw[el]at ho'⊢;have ty:=k1.ty;have hb:=HB.o;have HK5:=hid (k1.s1 (.slice (some ⟨g',0,none⟩) (i+1) cap'));have HO5:=hid (ho'.setO (o:=1) ty (by decide) (.slice (some ⟨g',0,none⟩) (i+1) cap'));have HC5:=hid ((HC4.o.keepT hT (by decide)).setO (o:=1) ty (by decide) (.slice (some ⟨g',0,none⟩) (i+1) cap'));have HT5:=hid ((HT4.o.keepT hT (by decide)).setO (o:=1) ty (by decide) (.slice (some ⟨g',0,none⟩) (i+1) cap'));have HP5:Hid (Cfb (w'.setCell ⟨b5,1,none⟩ (.slice (some ⟨g',0,none⟩) (i+1) cap')) w.heap.size ⟨(N:Int),q,C,R,s,.slice lo ln lc⟩):=hid ((heap_setCell_other _ _ _ _ (show w.heap.size≠b5 by omega)).trans (hT.kept HP4.o (by decide)));have HZ5:Hid (Wdb (w'.setCell ⟨b5,1,none⟩ (.slice (some ⟨g',0,none⟩) (i+1) cap')) (w.heap.size+1) 0 0 (.slice none 0 0) (.slice none 0 0) (.slice none 0 0) (.slice none 0 0)):=hid (Wdb.other (hT.kept HZ4.o (by decide)) (show w.heap.size+1≠b5 by omega));have HS5:Hid (Yc w (w'.setCell ⟨b5,1,none⟩ (.slice (some ⟨g',0,none⟩) (i+1) cap'))):=hid (Fr.setCell (hT.old HS4.o (Nat.le_refl _)) _ _ (.inr (show w.heap.size<=b5 by omega)));obtain⟨a0,a1,a2,a3,a4,a5,af⟩:=k1.cells;obtain⟨W5,eW5⟩:∃X,w'.setCell ⟨b5,1,none⟩ (.slice (some ⟨g',0,none⟩) (i+1) cap')=X:=⟨_,rfl⟩;rw[eW5]at HK5 HO5 HC5 HT5 HP5 HZ5 HS5;have HY5:Hid ((W5.alloc (.cells (ccs zC) 67)).heap[W5.heap.size]?=some (.cells (ccs zC) 67 (0,0))):=hid (heap_alloc_new W5 _);obtain⟨f0,f1,f2,f3,f4,f5,ff⟩:=HK5.o.cells;clear ho' hf' hT k1 el ty hb HO4 HC4 HT4 HW4 HP4 HZ4 HS4 HM HY4 HB4 HL4 d0 d1 d2 d3 d4 d5 df e0 e1 e2 e3 e4 e5 e6 e7 e8 e9 e10 e11 e12 ef)
        | (at_builtin
           refine ZA KC _ rfl _ _ 29 rfl Tryz.underlying29 32 Qj w.heap.size W5.heap.size _ (nwC i) zC rfl rfl (HC5.o.sT (sA W5 _)) HY5.o (by rw[show(nwC i).length=i by simp[nwC]];omega) (by rw[show(nwC i).length=i by simp[nwC]];omega) (by have:=HS5.o.size;simp;omega) ?_;intro v2 w2 ho2 hf2;have hT2:=(HC5.o.sT (sA W5 _)).frT (ts:=[67]) hf2 (Nat.le_refl _) (by simp);have k2:Wdb w2 b5 0 1 _ _ _ _:=hT2.kept (HK5.o.sT (sA W5 (.cells (ccs zC) 67))) (by decide);obtain⟨g2,cap2,rfl,_,_⟩:=ho2.head (by simp);have el:(nwC i ++ [zC]).length=i+1:=by simp[nwC]
           rw[el]at ho2⊢;have ty:=k2.ty;have hb:=HB.o;have HK6:=hid (k2.s2 (.slice (some ⟨g2,0,none⟩) (i+1) cap2));have HC6:=hid (ho2.setO (o:=2) ty (by decide) (.slice (some ⟨g2,0,none⟩) (i+1) cap2));have HO6:=hid (((HO5.o.sT (sA W5 _)).keepT hT2 (by decide)).setO (o:=2) ty (by decide) (.slice (some ⟨g2,0,none⟩) (i+1) cap2));have HT6:=hid (((HT5.o.sT (sA W5 _)).keepT hT2 (by decide)).setO (o:=2) ty (by decide) (.slice (some ⟨g2,0,none⟩) (i+1) cap2));have HP6:Hid (Cfb (w2.setCell ⟨b5,2,none⟩ (.slice (some ⟨g2,0,none⟩) (i+1) cap2)) w.heap.size ⟨(N:Int),q,C,R,s,.slice lo ln lc⟩):=hid ((heap_setCell_other _ _ _ _ (show w.heap.size≠b5 by omega)).trans (hT2.kept (HP5.o.sT (sA W5 _)) (by decide)));have HZ6:Hid (Wdb (w2.setCell ⟨b5,2,none⟩ (.slice (some ⟨g2,0,none⟩) (i+1) cap2)) (w.heap.size+1) 0 0 (.slice none 0 0) (.slice none 0 0) (.slice none 0 0) (.slice none 0 0)):=hid (Wdb.other (hT2.kept (HZ5.o.sT (sA W5 _)) (by decide)) (show w.heap.size+1≠b5 by omega));have HS6:Hid (Yc w (w2.setCell ⟨b5,2,none⟩ (.slice (some ⟨g2,0,none⟩) (i+1) cap2))):=hid (Fr.setCell (hT2.old (HS5.o.trans (sA W5 _)) (Nat.le_refl _)) _ _ (.inr (show w.heap.size<=b5 by omega)));obtain⟨t0,t1,t2,t3,t4,t5,tf⟩:=k2.cells;clear ho2 hf2 hT2 k2 el ty hb eW5 HK5 HO5 HC5 HT5 HP5 HZ5 HS5 HY5 a0 a1 a2 a3 a4 a5 af f0 f1 f2 f3 f4 f5 ff))
      go_roundw;case rel =>
        refine⟨i+1,by omega,by go_num,_,_,HK6.o,?_,?_,HT6.o,HP6.o,HZ6.o,HS6.o⟩
        · rw[show nwM E.st (i+1)=nwM E.st i ++ [m] by rw[nwM,EX.o,EM.o]]
          exact HO6.o
        · rw[M6]
          exact HC6.o
      case measure=>first|(simp[intOf];done)|(simp[intOf];omega)
    · have hge:¬(i:Int)<(N:Int):=by omega
      obtain rfl:i=N:=by omega
      obtain⟨d0,d1,d2,d3,d4,d5,df⟩:=HW.o.cells;obtain⟨z0,z1,z2,z3,z4,z5,zf⟩:=HZ.o.cells;go_wp21
      have ty:=HZ.o.ty;refine bodyPost_ret (Wdb.res2 (HZ.o.put 0 1 _ _ _ _) rfl _ _ rfl rfl) rfl ⟨_,rfl,⟨_,_,_,_,rfl,HO.o.set6 ty (by decide) _ _ _ _ _ _,HC.o.set6 ty (by decide) _ _ _ _ _ _,OwG.nil _ _,OwG.nil _ _⟩,Uv HS.o (by omega) _ _ _ _ _ _⟩
end
section
open Go.RowKit
open Pu Gp Ap Vp Np Za Ka Ja Ea Ha
theorem YaU(W:Wd)(v:Value)(w:World)(hv:RdW w v W)(hm:W.ms.length<=1000/\W.cs.length<=1000/\W.hs.length<=1000/\W.ks.length<=1000) :
    Calls Tryz.prog 30 #[v] w fun e w'=>∃u,e=.returned u/\OwW w' w.heap.size u W/\Yc w w':=by
  obtain⟨_,_,_,_,rfl,⟨ao,ca,rfl,_,_,ra⟩,⟨bo,cb,rfl,_,_,rb⟩,⟨co,cc,rfl,_,_,rc⟩,⟨so,cd,rfl,_,_,rd⟩⟩:=hv;have HA:=hid ra;have HB:=hid rb;have HC:=hid rc;have HD:=hid rd;have HBd:=hid hm;have A0:=sA w (.cells (Yf W.fr W.nx (.slice ao W.ms.length ca) (.slice bo W.cs.length cb) (.slice co W.hs.length cc) (.slice so W.ks.length cd)) 33);have A1:=sA (w.alloc (.cells (Yf W.fr W.nx (.slice ao W.ms.length ca) (.slice bo W.cs.length cb) (.slice co W.hs.length cc) (.slice so W.ks.length cd)) 33)) (.cells (Yf 0 0 (.slice none 0 0) (.slice none 0 0) (.slice none 0 0) (.slice none 0 0)) 33);have q0:=Zw (w.alloc (.cells (Yf W.fr W.nx (.slice ao W.ms.length ca) (.slice bo W.cs.length cb) (.slice co W.hs.length cc) (.slice so W.ks.length cd)) 33)) 0 0 (.slice none 0 0) (.slice none 0 0) (.slice none 0 0) (.slice none 0 0);rw[size_alloc]at q0;have HS0:=hid (A0.trans A1);have HP0:Hid (Wdb ((w.alloc (.cells (Yf W.fr W.nx (.slice ao W.ms.length ca) (.slice bo W.cs.length cb) (.slice co W.hs.length cc) (.slice so W.ks.length cd)) 33)).alloc (.cells (Yf 0 0 (.slice none 0 0) (.slice none 0 0) (.slice none 0 0) (.slice none 0 0)) 33)) w.heap.size W.fr W.nx (.slice ao W.ms.length ca) (.slice bo W.cs.length cb) (.slice co W.hs.length cc) (.slice so W.ks.length cd)):=hid ((Zw w W.fr W.nx (.slice ao W.ms.length ca) (.slice bo W.cs.length cb) (.slice co W.hs.length cc) (.slice so W.ks.length cd)).sT A1);have HQ0:Hid (Wdb ((w.alloc (.cells (Yf W.fr W.nx (.slice ao W.ms.length ca) (.slice bo W.cs.length cb) (.slice co W.hs.length cc) (.slice so W.ks.length cd)) 33)).alloc (.cells (Yf 0 0 (.slice none 0 0) (.slice none 0 0) (.slice none 0 0) (.slice none 0 0)) 33)) (w.heap.size+1) 0 0 (.slice none 0 0) (.slice none 0 0) (.slice none 0 0) (.slice none 0 0)):=hid q0;obtain⟨W0,eW0⟩:∃X,((w.alloc (.cells (Yf W.fr W.nx (.slice ao W.ms.length ca) (.slice bo W.cs.length cb) (.slice co W.hs.length cc) (.slice so W.ks.length cd)) 33)).alloc (.cells (Yf 0 0 (.slice none 0 0) (.slice none 0 0) (.slice none 0 0) (.slice none 0 0)) 33))=X:=⟨_,rfl⟩;rw[eW0]at HS0 HP0 HQ0;obtain⟨d0,d1,d2,d3,d4,d5,df⟩:=HP0.o.cells;clear A0 A1 q0 ra rb rc rd hm;go_enter Tryz.func30,Tryz.ntmps30;go_upto_region 1 with fail;clear eW0;go_wp2_with (first
    | (at_builtin
       refine Km KM _ rfl _ _ 28 rfl Tryz.underlying28 104 Qh _ _ _ W.ms rfl rfl (HA.o.sT HS0.o) (by have:=HBd.o;omega) ?_;intro v' w1 ho hs;obtain⟨x1,y1,rfl,_⟩:=ho.slice;have hPx:=HP0.o.sT hs;have hQx:=HQ0.o.sT hs;have HP1:=hid (hPx.s1 (.slice x1 W.ms.length y1));have HQ1:=hid (hQx.other (k:=w.heap.size) (o:=1) (v:=(.slice x1 W.ms.length y1)) (by omega));have HS1:Hid (Yc w _):=hid ((HS0.o.trans hs).setCell ⟨w.heap.size,1,none⟩ (.slice x1 W.ms.length y1) (.inr (Nat.le_refl _)));have HV1_1:=hid ((ho.less HS0.o.size).setO (o:=1) hPx.ty (by decide) (.slice x1 W.ms.length y1));obtain⟨W1,eW1⟩:∃X,w1.setCell ⟨w.heap.size,1,none⟩ (.slice x1 W.ms.length y1)=X:=⟨_,rfl⟩;rw[eW1]at HP1 HQ1 HS1 HV1_1;obtain⟨f0,f1,f2,f3,f4,f5,ff⟩:=hPx.cells;clear d0 d1 d2 d3 d4 d5 df;obtain⟨d0,d1,d2,d3,d4,d5,df⟩:=HP1.o.cells;clear ho hs hPx hQx)
    | (at_builtin
       refine Km KC _ rfl _ _ 29 rfl Tryz.underlying29 32 Qj _ _ _ W.cs rfl rfl (HB.o.sT HS1.o) (by have:=HBd.o;omega) ?_;intro v' w2 ho hs;obtain⟨x2,y2,rfl,_⟩:=ho.slice;have hPx:=HP1.o.sT hs;have hQx:=HQ1.o.sT hs;have HP2:=hid (hPx.s2 (.slice x2 W.cs.length y2));have HQ2:=hid (hQx.other (k:=w.heap.size) (o:=2) (v:=(.slice x2 W.cs.length y2)) (by omega));have HS2:Hid (Yc w _):=hid ((HS1.o.trans hs).setCell ⟨w.heap.size,2,none⟩ (.slice x2 W.cs.length y2) (.inr (Nat.le_refl _)));have HV2_2:=hid ((ho.less HS1.o.size).setO (o:=2) hPx.ty (by decide) (.slice x2 W.cs.length y2));have HV1_2:=hid ((HV1_1.o.sT hs).setO (o:=2) hPx.ty (by decide) (.slice x2 W.cs.length y2));obtain⟨W2,eW2⟩:∃X,w2.setCell ⟨w.heap.size,2,none⟩ (.slice x2 W.cs.length y2)=X:=⟨_,rfl⟩;rw[eW2]at HP2 HQ2 HS2 HV1_2 HV2_2;obtain⟨f0,f1,f2,f3,f4,f5,ff⟩:=hPx.cells;clear d0 d1 d2 d3 d4 d5 df;obtain⟨d0,d1,d2,d3,d4,d5,df⟩:=HP2.o.cells;clear ho hs hPx hQx)
    | (at_builtin
       refine Km KS _ rfl _ _ 30 rfl Tryz.underlying30 64 VI _ _ _ W.hs rfl rfl (HC.o.sT HS2.o) (by have:=HBd.o;omega) ?_;intro v' w3 ho hs;obtain⟨x3,y3,rfl,_⟩:=ho.slice;have hPx:=HP2.o.sT hs;have hQx:=HQ2.o.sT hs;have HP3:=hid (hPx.s3 (.slice x3 W.hs.length y3));have HQ3:=hid (hQx.other (k:=w.heap.size) (o:=3) (v:=(.slice x3 W.hs.length y3)) (by omega));have HS3:Hid (Yc w _):=hid ((HS2.o.trans hs).setCell ⟨w.heap.size,3,none⟩ (.slice x3 W.hs.length y3) (.inr (Nat.le_refl _)));have HV3_3:=hid ((ho.less HS2.o.size).setO (o:=3) hPx.ty (by decide) (.slice x3 W.hs.length y3));have HV1_3:=hid ((HV1_2.o.sT hs).setO (o:=3) hPx.ty (by decide) (.slice x3 W.hs.length y3));have HV2_3:=hid ((HV2_2.o.sT hs).setO (o:=3) hPx.ty (by decide) (.slice x3 W.hs.length y3));obtain⟨W3,eW3⟩:∃X,w3.setCell ⟨w.heap.size,3,none⟩ (.slice x3 W.hs.length y3)=X:=⟨_,rfl⟩;rw[eW3]at HP3 HQ3 HS3 HV1_3 HV2_3 HV3_3;obtain⟨f0,f1,f2,f3,f4,f5,ff⟩:=hPx.cells;clear d0 d1 d2 d3 d4 d5 df;obtain⟨d0,d1,d2,d3,d4,d5,df⟩:=HP3.o.cells;clear ho hs hPx hQx)
    | (at_builtin
       refine Km KQ _ rfl _ _ 31 rfl Tryz.underlying31 24 Ji _ _ _ W.ks rfl rfl (HD.o.sT HS3.o) (by have:=HBd.o;omega) ?_;intro v' w4 ho hs;obtain⟨x4,y4,rfl,_⟩:=ho.slice;have hPx:=HP3.o.sT hs;have hQx:=HQ3.o.sT hs;have HP4:=hid (hPx.s4 (.slice x4 W.ks.length y4));have HQ4:=hid (hQx.other (k:=w.heap.size) (o:=4) (v:=(.slice x4 W.ks.length y4)) (by omega));have HS4:Hid (Yc w _):=hid ((HS3.o.trans hs).setCell ⟨w.heap.size,4,none⟩ (.slice x4 W.ks.length y4) (.inr (Nat.le_refl _)));have HV4_4:=hid ((ho.less HS3.o.size).setO (o:=4) hPx.ty (by decide) (.slice x4 W.ks.length y4));have HV1_4:=hid ((HV1_3.o.sT hs).setO (o:=4) hPx.ty (by decide) (.slice x4 W.ks.length y4));have HV2_4:=hid ((HV2_3.o.sT hs).setO (o:=4) hPx.ty (by decide) (.slice x4 W.ks.length y4));have HV3_4:=hid ((HV3_3.o.sT hs).setO (o:=4) hPx.ty (by decide) (.slice x4 W.ks.length y4));obtain⟨W4,eW4⟩:∃X,w4.setCell ⟨w.heap.size,4,none⟩ (.slice x4 W.ks.length y4)=X:=⟨_,rfl⟩;rw[eW4]at HP4 HQ4 HS4 HV1_4 HV2_4 HV3_4 HV4_4;obtain⟨f0,f1,f2,f3,f4,f5,ff⟩:=hPx.cells;clear d0 d1 d2 d3 d4 d5 df;obtain⟨d0,d1,d2,d3,d4,d5,df⟩:=HP4.o.cells;obtain⟨z0,z1,z2,z3,z4,z5,zf⟩:=HQ4.o.cells;clear ho hs hPx hQx))
  have ty:=HQ4.o.ty;refine bodyPost_ret (Wdb.res1 (HQ4.o.put W.fr W.nx _ _ _ _) rfl _ rfl) rfl ⟨_,rfl,⟨_,_,_,_,rfl,HV1_4.o.set6 ty (by decide) _ _ _ _ _ _,HV2_4.o.set6 ty (by decide) _ _ _ _ _ _,HV3_4.o.set6 ty (by decide) _ _ _ _ _ _,HV4_4.o.set6 ty (by decide) _ _ _ _ _ _⟩,Uv HS4.o (by omega) _ _ _ _ _ _⟩
end
section
open Go.RowKit
open Pu Gp Ap Vp Np Za Ka Ja Ea Ha Hg Hi
theorem TR{α:Type}{L:List α}{d:α}{Q:α->Prop}(h:∀j,j<L.length->Q (L.getD j d)):∀s∈L,Q s:=fun s hs=>by
 obtain⟨i,hi,rfl⟩:=List.mem_iff_getElem.1 hs;have:=h i hi;rw[List.getD_eq_getElem?_getD,List.getElem?_eq_getElem hi]at this;exact this
theorem getD_in{α:Type}{L:List α}{d:α}{j:Nat}(hj:j<L.length):L.getD j d∈L:=by
 rw[List.getD_eq_getElem?_getD,List.getElem?_eq_getElem hj];exact List.getElem_mem hj
theorem YbD(p q C R:Int)(s:ByteArray)(lo:Option Addr)(ln lc:Nat)(st:List (Int × Int))(l:List Int)(w:World)(v0:Int)(A:A13 w ⟨p,q,C,R,s,.slice lo ln lc⟩ v0 st)(hr:RdI w lo ln lc l)(hc:¬Zm p v0 st.length l)(W:Wd)(v:Value)(hv:RdW w v W) :
  Ya 28 #[.agg #[.int .i64 p,.int .u64 q,.int .i64 C,.int .i64 R,.string s,.slice lo ln lc],v] w (.int .i64 130):=by
 have HV:=hid hv;obtain⟨a,b,c,d,rfl,⟨xa,ya,rfl,l1,ha,hra⟩,⟨xb,yb,rfl,l2,hb,hrb⟩,⟨xc,yc,rfl,l3,hc0,hrc⟩,⟨xd,yd,rfl,l4,hd0,hrd⟩⟩:=hv;have HRc:=hid hrc;have HRd:=hid hrd;clear l1 l2 l3 l4 ha hb hc0 hd0 hra hrb hrc hrd;obtain⟨k1,e1⟩:∃n,W.ms.length=n:=⟨_,rfl⟩;obtain⟨k2,e2⟩:∃n,W.cs.length=n:=⟨_,rfl⟩;obtain⟨k3,e3⟩:∃n,W.hs.length=n:=⟨_,rfl⟩;obtain⟨k4,e4⟩:∃n,W.ks.length=n:=⟨_,rfl⟩;obtain⟨fr,e5⟩:∃n,W.fr=n:=⟨_,rfl⟩;obtain⟨nx,e6⟩:∃n,W.nx=n:=⟨_,rfl⟩;rw[e1,e2,e3,e4,e5,e6]at HV⊢;rw[e3]at HRc;rw[e4]at HRd;have EL:=hid (And.intro e3 (And.intro e4 (And.intro e5 e6)));clear e1 e2 e3 e4 e5 e6;have A0:=sA w (.cells #[.int .i64 p,.int .u64 q,.int .i64 C,.int .i64 R,.string s,.slice lo ln lc] 27);have A1:=sA (w.alloc (.cells #[.int .i64 p,.int .u64 q,.int .i64 C,.int .i64 R,.string s,.slice lo ln lc] 27)) (.cells (Yf fr nx (.slice xa k1 ya) (.slice xb k2 yb) (.slice xc k3 yc) (.slice xd k4 yd)) 33);have w0:=Zw (w.alloc (.cells #[.int .i64 p,.int .u64 q,.int .i64 C,.int .i64 R,.string s,.slice lo ln lc] 27)) fr nx (.slice xa k1 ya) (.slice xb k2 yb) (.slice xc k3 yc) (.slice xd k4 yd);rw[size_alloc]at w0;have HS0:=hid (A0.trans A1);have HP0:Hid (Cfb ((w.alloc (.cells #[.int .i64 p,.int .u64 q,.int .i64 C,.int .i64 R,.string s,.slice lo ln lc] 27)).alloc (.cells (Yf fr nx (.slice xa k1 ya) (.slice xb k2 yb) (.slice xc k3 yc) (.slice xd k4 yd)) 33)) w.heap.size ⟨p,q,C,R,s,.slice lo ln lc⟩):=hid ((Xp w ⟨p,q,C,R,s,.slice lo ln lc⟩).sT A1);have HW0:Hid (Wdb ((w.alloc (.cells #[.int .i64 p,.int .u64 q,.int .i64 C,.int .i64 R,.string s,.slice lo ln lc] 27)).alloc (.cells (Yf fr nx (.slice xa k1 ya) (.slice xb k2 yb) (.slice xc k3 yc) (.slice xd k4 yd)) 33)) (w.heap.size+1) fr nx (.slice xa k1 ya) (.slice xb k2 yb) (.slice xc k3 yc) (.slice xd k4 yd)):=hid w0;have HOp:=hid (QP ⟨p,q,C,R,s,.slice lo ln lc⟩ v0 st l lo ln lc rfl ((w.alloc (.cells #[.int .i64 p,.int .u64 q,.int .i64 C,.int .i64 R,.string s,.slice lo ln lc] 27)).alloc (.cells (Yf fr nx (.slice xa k1 ya) (.slice xb k2 yb) (.slice xc k3 yc) (.slice xd k4 yd)) 33)) (A.sT (A0.trans A1)) (hr.sT (A0.trans A1)));rw[XN (by exact hc)]at HOp;clear A hr hc;clear A0 A1 w0;obtain⟨W0,eW0⟩:∃X,((w.alloc (.cells #[.int .i64 p,.int .u64 q,.int .i64 C,.int .i64 R,.string s,.slice lo ln lc] 27)).alloc (.cells (Yf fr nx (.slice xa k1 ya) (.slice xb k2 yb) (.slice xc k3 yc) (.slice xd k4 yd)) 33))=X:=⟨_,rfl⟩;rw[eW0]at HS0 HP0 HW0 HOp;obtain⟨c0,c1,c2,c3,c4,c5,cf⟩:=HP0.o.cells;dsimp only at c0 c1 c2 c3 c4 c5;go_enter Tryz.func28,Tryz.ntmps28;go_wp2_with fail;refine HOp.o.mono ?_;rintro e w1 ⟨rfl,h1⟩;have HS1:=hid (HS0.o.trans h1);clear h1 c0 c1 c2 c3 c4 c5 cf eW0;go_wp2_with fail;go_ret;exact⟨rfl,HS1.o⟩
theorem YaV(N:Nat)(q C R:Int)(s:ByteArray)(lo:Option Addr)(ln lc:Nat)(E:Env)(l:List Int)(w:World)(v0:Int)(A:A13 w ⟨(N:Int),q,C,R,s,.slice lo ln lc⟩ v0 E.st)(hsp:∀u,Calls Tryz.prog 60 #[ar C R s] u fun e w'=>∃a,e=.returned a/\OwG KT 57 w' u.heap.size a E.sp/\Yc u w')(hr:RdI w lo ln lc l)(hc:Zm (N:Int) v0 E.st.length l)(W:Wd)(v:Value)(hv:RdW w v W) :
  Ya 28 #[.agg #[.int .i64 (N:Int),.int .u64 q,.int .i64 C,.int .i64 R,.string s,.slice lo ln lc],v] w (.int .i64 (Xv (N:Int) E W)):=by
 have hN6:N<=6:=by have:=hc.2.1;omega
 have HYs:Hid (Z0 (N:Int) E W->(0:Int)=Xv (N:Int) E W):=hid (fun h=>(JP h).symm);have HNo:Hid (¬Z0 (N:Int) E W->(131:Int)=Xv (N:Int) E W):=hid (fun h=>(Qg h).symm);have HFi:Hid (Z0 (N:Int) E W ↔ (Seats N W/\Flo W.hs/\(∀s∈W.hs,s.ow<(N:Int)/\s.no<W.nx)/\YW W.ks (E.sp.length:Int)/\(∀x∈W.ks,x.no<W.nx)/\1<=W.nx/\W.nx<=1099511627777)/\0<=W.fr/\W.fr<=1099511627776):=hid (by
  unfold Z0 Ha.Good Ha.Rest;rw[Int.toNat_natCast])
 obtain⟨res,eres⟩:∃k,Xv (N:Int) E W=k:=⟨_,rfl⟩;rw[eres]at HYs HNo⊢;have HV:=hid hv;obtain⟨a,b,c,d,rfl,⟨xa,ya,rfl,l1,ha,hra⟩,⟨xb,yb,rfl,l2,hb,hrb⟩,⟨xc,yc,rfl,l3,hc0,hrc⟩,⟨xd,yd,rfl,l4,hd0,hrd⟩⟩:=hv;have HRc:=hid hrc;have HRd:=hid hrd;obtain⟨k1,e1⟩:∃n,W.ms.length=n:=⟨_,rfl⟩;obtain⟨k2,e2⟩:∃n,W.cs.length=n:=⟨_,rfl⟩;obtain⟨k3,e3⟩:∃n,W.hs.length=n:=⟨_,rfl⟩;obtain⟨k4,e4⟩:∃n,W.ks.length=n:=⟨_,rfl⟩;obtain⟨fr,e5⟩:∃n,W.fr=n:=⟨_,rfl⟩;obtain⟨nx,e6⟩:∃n,W.nx=n:=⟨_,rfl⟩;rw[e1,e2,e3,e4,e5,e6]at HV⊢;rw[e3]at HRc;rw[e4]at HRd;have EL:=hid (And.intro e3 (And.intro e4 (And.intro e5 e6)));have A0:=sA w (.cells #[.int .i64 (N:Int),.int .u64 q,.int .i64 C,.int .i64 R,.string s,.slice lo ln lc] 27);have A1:=sA (w.alloc (.cells #[.int .i64 (N:Int),.int .u64 q,.int .i64 C,.int .i64 R,.string s,.slice lo ln lc] 27)) (.cells (Yf fr nx (.slice xa k1 ya) (.slice xb k2 yb) (.slice xc k3 yc) (.slice xd k4 yd)) 33);have w0:=Zw (w.alloc (.cells #[.int .i64 (N:Int),.int .u64 q,.int .i64 C,.int .i64 R,.string s,.slice lo ln lc] 27)) fr nx (.slice xa k1 ya) (.slice xb k2 yb) (.slice xc k3 yc) (.slice xd k4 yd);rw[size_alloc]at w0;have HS0:=hid (A0.trans A1);have HP0:Hid (Cfb ((w.alloc (.cells #[.int .i64 (N:Int),.int .u64 q,.int .i64 C,.int .i64 R,.string s,.slice lo ln lc] 27)).alloc (.cells (Yf fr nx (.slice xa k1 ya) (.slice xb k2 yb) (.slice xc k3 yc) (.slice xd k4 yd)) 33)) w.heap.size ⟨(N:Int),q,C,R,s,.slice lo ln lc⟩):=hid ((Xp w ⟨(N:Int),q,C,R,s,.slice lo ln lc⟩).sT A1);have HW0:Hid (Wdb ((w.alloc (.cells #[.int .i64 (N:Int),.int .u64 q,.int .i64 C,.int .i64 R,.string s,.slice lo ln lc] 27)).alloc (.cells (Yf fr nx (.slice xa k1 ya) (.slice xb k2 yb) (.slice xc k3 yc) (.slice xd k4 yd)) 33)) (w.heap.size+1) fr nx (.slice xa k1 ya) (.slice xb k2 yb) (.slice xc k3 yc) (.slice xd k4 yd)):=hid w0;have HOp:=hid (QP ⟨(N:Int),q,C,R,s,.slice lo ln lc⟩ v0 E.st l lo ln lc rfl ((w.alloc (.cells #[.int .i64 (N:Int),.int .u64 q,.int .i64 C,.int .i64 R,.string s,.slice lo ln lc] 27)).alloc (.cells (Yf fr nx (.slice xa k1 ya) (.slice xb k2 yb) (.slice xc k3 yc) (.slice xd k4 yd)) 33)) (A.sT (A0.trans A1)) (hr.sT (A0.trans A1)));rw[Dg (by exact hc)]at HOp;have HSp:=hid hsp;obtain⟨W0,eW0⟩:∃X,((w.alloc (.cells #[.int .i64 (N:Int),.int .u64 q,.int .i64 C,.int .i64 R,.string s,.slice lo ln lc] 27)).alloc (.cells (Yf fr nx (.slice xa k1 ya) (.slice xb k2 yb) (.slice xc k3 yc) (.slice xd k4 yd)) 33))=X:=⟨_,rfl⟩;rw[eW0]at HS0 HP0 HW0 HOp;obtain⟨c0,c1,c2,c3,c4,c5,cf⟩:=HP0.o.cells;dsimp only at c0 c1 c2 c3 c4 c5;unfold Ya;go_in
 go_wp21
 refine HOp.o.mono ?_;rintro e w1 ⟨rfl,h1⟩;have HS1:=hid (HS0.o.trans h1);have HP1:=hid (HP0.o.sT h1);have HW1:=hid (HW0.o.sT h1);obtain⟨c0,c1,c2,c3,c4,c5,cf⟩:=HP1.o.cells;dsimp only at c0 c1 c2 c3 c4 c5;go_wp21
 refine(HSp.o w1).mono ?_;rintro e w2 ⟨vs,rfl,ho2,h2⟩;obtain⟨so,sc',rfl,_⟩:=ho2.slice;have HS2:=hid (HS1.o.trans h2);have HP2:=hid (HP1.o.sT h2);have HW2:=hid (HW1.o.sT h2);obtain⟨sn,esn⟩:∃k,E.sp.length=k:=⟨_,rfl⟩;rw[esn]at HFi⊢;clear ho2 h2 c0 c1 c2 c3 c4 c5 cf HS1 HP1 HW1 HSp esn;obtain⟨c0,c1,c2,c3,c4,c5,cf⟩:=HP2.o.cells;dsimp only at c0 c1 c2 c3 c4 c5;obtain⟨d0,d1,d2,d3,d4,d5,df⟩:=HW2.o.cells;go_wp21
 refine(RQ ⟨(N:Int),q,C,R,s,.slice lo ln lc⟩ N rfl hN6 W _ w2 (HV.o.sT HS2.o)).mono ?_;rintro e w3 ⟨r,rfl,⟨b,rfl,hsq⟩,h3⟩;have HSq:=hid hsq;have HS3:=hid (HS2.o.trans h3);have HP3:=hid (HP2.o.sT h3);have HW3:=hid (HW2.o.sT h3);clear hsq h3 c0 c1 c2 c3 c4 c5 cf d0 d1 d2 d3 d4 d5 df HS2 HP2 HW2 HV;obtain⟨d0,d1,d2,d3,d4,d5,df⟩:=HW3.o.cells;go_wp21
 refine(D3 W.hs xc k3 yc w3 (HRc.o.sT HS3.o)).mono ?_;rintro e w4 ⟨rfl,h4⟩;have HS4:=hid (HS3.o.trans h4);have HP4:=hid (HP3.o.sT h4);have HW4:=hid (HW3.o.sT h4);obtain⟨fl,efl⟩:∃b,flo W.hs=b:=⟨_,rfl⟩;have HFl:=hid efl;rw[efl];clear efl h4 d0 d1 d2 d3 d4 d5 df HS3 HP3 HW3;obtain⟨d0,d1,d2,d3,d4,d5,df⟩:=HW4.o.cells;go_wp21
 refine(Je W.ks (sn:Int) xd k4 yd w4 (UU (HRd.o.sT HS4.o))).mono ?_;rintro e w5 ⟨rfl,h5⟩;have HS5:=hid (HS4.o.trans h5);have HP5:=hid (HP4.o.sT h5);have HW5:=hid (HW4.o.sT h5);obtain⟨ck,eck⟩:∃b,Y5 W.ks (sn:Int)=b:=⟨_,rfl⟩;have HCk:=hid eck;rw[eck];clear eck h5 d0 d1 d2 d3 d4 d5 df HS4 HP4 HW4;obtain⟨d0,d1,d2,d3,d4,d5,df⟩:=HW5.o.cells;cases b with
 | false =>
  have HE:=hid (HNo.o (fun h=>by have:=HSq.o.2 (HFi.o.1 h).1.1;cases this));go_wp21
  go_ret;exact⟨Ze HE.o,HS5.o⟩
 | true =>
 cases fl with
 | false =>
  have HE:=hid (HNo.o (fun h=>by have:=flo_iff.2 (HFi.o.1 h).1.2.1;rw[HFl.o]at this;cases this));go_wp21
  go_ret;exact⟨Ze HE.o,HS5.o⟩
 | true =>
 by_cases g1:ck=0;rotate_left
 ·have g1':(ck != 0)=true:=by simpa using g1
  have HE:=hid (HNo.o (fun h=>g1 (by rw[<- HCk.o];exact V9 (HFi.o.1 h).1.2.2.2.1)));go_wp21
  go_ret;exact⟨Ze HE.o,HS5.o⟩
 subst g1;by_cases g2:fr<0
 ·skip
  have HE:=hid (HNo.o (fun h=>by have h1:=(HFi.o.1 h).2.1;rw[EL.o.2.2.1]at h1;omega));go_wp21
  go_ret;exact⟨Ze HE.o,HS5.o⟩
 by_cases g3:fr > 1099511627776
 ·skip
  have HE:=hid (HNo.o (fun h=>by have h1:=(HFi.o.1 h).2.2;rw[EL.o.2.2.1]at h1;omega));go_wp21
  go_ret;exact⟨Ze HE.o,HS5.o⟩
 by_cases g4:nx<1
 ·skip
  have HE:=hid (HNo.o (fun h=>by have h1:=(HFi.o.1 h).1.2.2.2.2.2.1;rw[EL.o.2.2.2]at h1;omega));go_wp21
  go_ret;exact⟨Ze HE.o,HS5.o⟩
 by_cases g5:nx > 1099511627777
 ·skip
  have HE:=hid (HNo.o (fun h=>by have h1:=(HFi.o.1 h).1.2.2.2.2.2.2;rw[EL.o.2.2.2]at h1;omega));go_wp21
  go_ret;exact⟨Ze HE.o,HS5.o⟩
 have HK0:Hid (Seats N W/\Flo W.hs/\YW W.ks (sn:Int)/\(1<=W.nx/\W.nx<=1099511627777)/\0<=W.fr/\W.fr<=1099511627776):=hid (by
  rw[EL.o.2.2.1,EL.o.2.2.2];exact⟨HSq.o.1 rfl,flo_iff.1 HFl.o,chkK0.1 HCk.o,⟨by omega,by omega⟩,by omega,by omega⟩)
 go_wp21
 clear d0 d1 d2 d3 d4 d5 df;have hk3:k3<=48:=by have h:=HK0.o.2.1.1;rw[EL.o.1]at h;exact h
 have hk4:k4<=281474976710656:=by have h:=(mayK_pw.1 HK0.o.2.2.1).2.1;rw[EL.o.2.1]at h;omega
 go_loopw [10] (fun u wr=>∃i:Nat,i<=k3/\u=.int .i64 (i:Int)/\Hid (∀j,j<i->(ss W.hs j).ow<(N:Int)/\(ss W.hs j).no<nx)/\Yc w5 wr) (fun u _=>k3-(intOf u).toNat);case atStart=>exact⟨0,by omega,rfl,hid (fun j h=>absurd h (Nat.not_lt_zero j)),Fr.refl _ _⟩
 case round =>
  obtain⟨i,hi,rfl,HJ,hs⟩:=hrel;have HS:=hid hs;obtain⟨c0,c1,c2,c3,c4,c5,cf⟩:=(HP5.o.sT hs).cells;dsimp only at c0 c1 c2 c3 c4 c5;obtain⟨d0,d1,d2,d3,d4,d5,df⟩:=(HW5.o.sT hs).cells;by_cases hin:i<k3
  ·have hlt:(i:Int)<(k3:Int):=by omega
   have hr:=HRc.o.sT (HS5.o.trans hs);obtain⟨Bk,ok,rfl⟩:=hr.at (by omega);obtain⟨r0,r1,r2,r3,r4,r5,r6,r7⟩:=rdS hr hin;have HM:Hid (ss W.hs i∈W.hs):=hid (getD_in (by rw[EL.o.1];exact hin));have HD:Hid (¬((ss W.hs i).ow<(N:Int)/\(ss W.hs i).no<nx)->(131:Int)=res):=hid (fun h=>HNo.o (fun hf=>h (by
    have:=(HFi.o.1 hf).1.2.2.1 _ HM.o;rw[EL.o.2.2.2]at this;exact this)))
   have HY:Hid ((ss W.hs i).ow<(N:Int)/\(ss W.hs i).no<nx->∀j,j<i+1->(ss W.hs j).ow<(N:Int)/\(ss W.hs j).no<nx):=hid (fun h j hj=>by
    by_cases e:j=i
    ·subst e;exact h
    ·exact HJ.o j (by omega))
   obtain⟨x,ex⟩:∃x,(ss W.hs i).ow=x:=⟨_,rfl⟩;obtain⟨y,ey⟩:∃x,(ss W.hs i).no=x:=⟨_,rfl⟩;rw[ex]at r1 HD HY;rw[ey]at r0 HD HY;clear ex ey hr hs;have q0:=kC c0;have q3:=kC d3;have q5:=kC d5;have qa:=kC r1;have qb:=kC r0;have hne:=Aft.here wr;by_cases g6:x ≥ (N:Int)
   ·have f1:decide (x ≥ (N:Int))=true:=decide_eq_true g6;have HX:=hid (HD.o (fun h=>by have:=h.1;omega));clear g6;go_upto_region 13 with fail;refine Yk (by kernel_rfl) (by kernel_rfl) ?_;repeat(go_big_quiet_step (fail))
    refine wpQuiet_nil ?_;intro w6 h6;have HS6:=hid ((HS5.o.trans HS.o).trans h6);clear h6 hne q0 q3 q5 qa qb c0 c1 c2 c3 c4 c5 cf d0 d1 d2 d3 d4 d5 df r0 r1 r2 r3 r4 r5 r6 r7;go_wp21
    (try rw[Exit.noGoto_ret])
    go_ret;exact⟨Ze HX.o,HS6.o⟩
   have f1:decide (x ≥ (N:Int))=false:=decide_eq_false g6;by_cases g7:y ≥ nx
   ·have f2:decide (y ≥ nx)=true:=decide_eq_true g7;have HX:=hid (HD.o (fun h=>by have:=h.2;omega));clear g6 g7;go_upto_region 13 with fail;refine Yk (by kernel_rfl) (by kernel_rfl) ?_;repeat(go_big_quiet_step (fail))
    refine wpQuiet_nil ?_;intro w6 h6;have HS6:=hid ((HS5.o.trans HS.o).trans h6);clear h6 hne q0 q3 q5 qa qb c0 c1 c2 c3 c4 c5 cf d0 d1 d2 d3 d4 d5 df r0 r1 r2 r3 r4 r5 r6 r7;go_wp21
    (try rw[Exit.noGoto_ret])
    go_ret;exact⟨Ze HX.o,HS6.o⟩
   have f2:decide (y ≥ nx)=false:=decide_eq_false g7;have HX:=hid (HY.o ⟨by omega,by omega⟩);clear g6 g7;go_upto_region 13 with fail;refine Yk (by kernel_rfl) (by kernel_rfl) ?_;repeat(go_big_quiet_step (fail))
   refine wpQuiet_nil ?_;intro w6 h6;have HS6:=hid (HS.o.trans h6);clear h6 hne q0 q3 q5 qa qb c0 c1 c2 c3 c4 c5 cf d0 d1 d2 d3 d4 d5 df r0 r1 r2 r3 r4 r5 r6 r7;go_wp21
   go_roundw;case rel=>exact⟨i+1,by omega,by go_num,HX,HS6.o⟩
   case measure=>first|(simp[intOf];done)|(simp[intOf];omega)
  have hge:¬(i:Int)<(k3:Int):=by omega
  have HAl:Hid (∀s∈W.hs,s.ow<(N:Int)/\s.no<nx):=hid (TR (fun j hj=>HJ.o j (by rw[EL.o.1]at hj;omega)));have HS7:=hid (HS5.o.trans hs);have HW7:=hid (HW5.o.sT hs);clear HJ hs hi hin c0 c1 c2 c3 c4 c5 cf;go_wp21
  clear d0 d1 d2 d3 d4 d5 df hge;go_loopw [11] (fun u wx=>∃i:Nat,i<=k4/\u=.int .i64 (i:Int)/\Hid (∀j,j<i->(pk W.ks j).no<nx)/\Yc wr wx) (fun u _=>k4-(intOf u).toNat);case atStart=>exact⟨0,by omega,rfl,hid (fun j h=>absurd h (Nat.not_lt_zero j)),Fr.refl _ _⟩
  case round =>
   obtain⟨i,hi,rfl,HJ,hs⟩:=hrel;have HS:=hid hs;obtain⟨d0,d1,d2,d3,d4,d5,df⟩:=(HW7.o.sT hs).cells;by_cases hin:i<k4
   ·have hlt:(i:Int)<(k4:Int):=by omega
    have hr:=HRd.o.sT (HS7.o.trans hs);obtain⟨Bk,ok,rfl⟩:=hr.at (by omega);obtain⟨r0,r1,r2⟩:=rdQ hr hin;have HM:Hid (pk W.ks i∈W.ks):=hid (getD_in (by rw[EL.o.2.1];exact hin));have HD:Hid (¬(pk W.ks i).no<nx->(131:Int)=res):=hid (fun h=>HNo.o (fun hf=>h (by
     have:=(HFi.o.1 hf).1.2.2.2.2.1 _ HM.o;rw[EL.o.2.2.2]at this;exact this)))
    have HY:Hid ((pk W.ks i).no<nx->∀j,j<i+1->(pk W.ks j).no<nx):=hid (fun h j hj=>by
     by_cases e:j=i
     ·subst e;exact h
     ·exact HJ.o j (by omega))
    obtain⟨y,ey⟩:∃x,(pk W.ks i).no=x:=⟨_,rfl⟩;rw[ey]at r0 HD HY;clear ey hr hs;have q4:=kC d4;have q5:=kC d5;have qa:=kC r0;have hne:=Aft.here wr;by_cases g7:y ≥ nx
    ·have f2:decide (y ≥ nx)=true:=decide_eq_true g7;have HX:=hid (HD.o (fun h=>by omega));clear g7;go_upto_region 18 with fail;refine Yk (by kernel_rfl) (by kernel_rfl) ?_;repeat(go_big_quiet_step (fail))
     refine wpQuiet_nil ?_;intro w6 h6;have HS6:=hid ((HS7.o.trans HS.o).trans h6);clear h6 hne q4 q5 qa d0 d1 d2 d3 d4 d5 df r0 r1 r2;go_wp21
     (try rw[Exit.noGoto_ret])
     go_ret;exact⟨Ze HX.o,HS6.o⟩
    have f2:decide (y ≥ nx)=false:=decide_eq_false g7;have HX:=hid (HY.o (by omega));clear g7;go_upto_region 18 with fail;refine Yk (by kernel_rfl) (by kernel_rfl) ?_;repeat(go_big_quiet_step (fail))
    refine wpQuiet_nil ?_;intro w6 h6;have HS6:=hid (HS.o.trans h6);clear h6 hne q4 q5 qa d0 d1 d2 d3 d4 d5 df r0 r1 r2;go_wp21
    go_roundw;case rel=>exact⟨i+1,by omega,by go_num,HX,HS6.o⟩
    case measure=>first|(simp[intOf];done)|(simp[intOf];omega)
   have hge:¬(i:Int)<(k4:Int):=by omega
   have HAk:Hid (∀s∈W.ks,s.no<nx):=hid (TR (fun j hj=>HJ.o j (by rw[EL.o.2.1]at hj;omega)));have HX:Hid ((0:Int)=res):=hid (HYs.o (HFi.o.2 (by
    have k:=HK0.o;have e:=EL.o.2.2.2;refine⟨⟨k.1,k.2.1,?_,k.2.2.1,?_,k.2.2.2.1.1,k.2.2.2.1.2⟩,k.2.2.2.2⟩
    ·rw[e];exact HAl.o
    ·rw[e];exact HAk.o)))
   have HS6:=hid (HS7.o.trans hs);clear HJ hs hi hin;go_wp21
   go_ret;exact⟨Ze HX.o,HS6.o⟩
end
section
open Go.RowKit
open Pu Gp Ap Vp Np Za Ka Ja Ea Ha Hg
structure Ph5 (x:World) (F:Cf) (B:Nat) (f:Int) (xo:Option Addr) (n xcp:Nat) (G0 G1 G2 G3 G4 G5:Gm):Prop where
 c1:∀(g:Nat) (u:World),Yc x u->B<=u.heap.size->GmM B u g F f G0->Calls Tryz.prog 31 #[.pointer (some ⟨g,0,none⟩),.slice xo n xcp] u fun e w'=>(∃v,e=.returned v)/\GmM B w' g F f G1/\FrT B [83,59,67,69,71,47] u w'
 c2:∀(g:Nat) (u:World),B<=u.heap.size->GmM B u g F f G1->Calls Tryz.prog 32 #[.pointer (some ⟨g,0,none⟩)] u fun e w'=>(∃v,e=.returned v)/\GmM B w' g F f G2/\FrT B [83,59,67,69,71,47] u w'
 c3:∀(g:Nat) (u:World),B<=u.heap.size->GmM B u g F f G2->Calls Tryz.prog 33 #[.pointer (some ⟨g,0,none⟩)] u fun e w'=>(∃v,e=.returned v)/\GmM B w' g F f G3/\FrT B [83,59,67,69,71,47] u w'
 c4:∀(g:Nat) (u:World),B<=u.heap.size->GmM B u g F f G3->Calls Tryz.prog 34 #[.pointer (some ⟨g,0,none⟩)] u fun e w'=>(∃v,e=.returned v)/\GmM B w' g F f G4/\FrT B [83,59,67,69,71,47] u w'
 c5:∀(g:Nat) (u:World),B<=u.heap.size->GmM B u g F f G4->Calls Tryz.prog 35 #[.pointer (some ⟨g,0,none⟩)] u fun e w'=>(∃v,e=.returned v)/\GmM B w' g F f G5/\FrT B [83,59,67,69,71,47] u w'
theorem YaW(E:Env)(g:Gm)(h:g.w.hs.length<=48):(X7 E g).ns.length<=g.ns.length+96:=by
 have h1:=(Jk (Yq E g.w.hs) (sho g.w.ms (Yq E g.w.hs)) g).2.2;have h2:=sho_len g.w.ms (Yq E g.w.hs);have h3:=Q3 E g.w.hs;show(YD (Yq E g.w.hs) (sho g.w.ms (Yq E g.w.hs)) g).ns.length<=_;omega
theorem YaX(E:Env)(f:Int)(g:Gm):(Xm E f g).ns.length<=g.ns.length+9:=by
 have h1:=(take_len g.w.ks (pic g.w.ms g.w.ks E.sp) g).2.2;have h2:(pic g.w.ms g.w.ks E.sp).length<=8:=KZ;unfold Xm;simp only;split
 ·simp only[List.length_append,List.length_cons,List.length_nil];omega
 ·show(YE g.w.ks (pic g.w.ms g.w.ks E.sp) g).ns.length<=_;omega
theorem YaY(x:World)(F:Cf)(E:Env)(D:D13 x F E)(B:Nat)(W:Wd)(N:Nat)(l:List Cm)(xo:Option Addr)(n xcp:Nat)(hr:RdG KX x xo n l)(hxB:x.heap.size<=B)(hN:N<=6)(hst:N<=E.st.length)(hs16:E.sp.length<=16)(hG:Ha.Good N E W)(hl:∀y∈l,Rgt N y)(h47:(n+300)*24<=140737488355328) :
  ∃G1 G2 G3 G4 G5:Gm,Ph5 x F B (W.fr+1) xo n xcp ⟨W,[]⟩ G1 G2 G3 G4 G5/\frame E W l=⟨{ G5.w with fr:=W.fr+1 },G5.ns⟩:=by
 have hln:=hr.1;have q1:Ha.Good N E (YJ l ⟨W,[]⟩).w:=JM hN l _ hG hl;have a1:(YJ l ⟨W,[]⟩).ns.length<=n:=by
  have h:(YJ l ⟨W,[]⟩).ns.length<=([]:List Nn).length+l.length:=DB l ⟨W,[]⟩;rw[hln,List.length_nil,Nat.zero_add]at h;exact h
 obtain⟨G1,e1⟩:∃G1,YJ l ⟨W,[]⟩=G1:=⟨_,rfl⟩;rw[e1]at q1 a1;have q2:Ha.Good N E (YT (Ja.bod (Zd E G1).w.ms) (Zd E G1)).w:=F6 (Da q1);have a2:(YT (Ja.bod (Zd E G1).w.ms) (Zd E G1)).ns.length<=n+36:=by
  have h:=F7 (Zd E G1);have h2:(Zd E G1).ns.length=G1.ns.length:=rfl;omega
 obtain⟨G2,e2⟩:∃G2,YT (Ja.bod (Zd E G1).w.ms) (Zd E G1)=G2:=⟨_,rfl⟩;rw[e2]at q2 a2;have q3:Ha.Good N E (X7 E G2).w:=Dc q2;have q4:Ha.Good N E (Vk E G2).w:=F4 q2;have h48:=(flo_pw.1 q2.2.1).1;have a3:(X7 E G2).ns.length<=n+132:=by have:=YaW E G2 h48;omega
 obtain⟨G3,e3⟩:∃G3,X7 E G2=G3:=⟨_,rfl⟩;rw[e3]at q3 a3;have q5:Ha.Good N E (Xm E (W.fr+1) G3).w:=Dd q3;have a4:(Xm E (W.fr+1) G3).ns.length<=n+141:=by have:=YaX E (W.fr+1) G3;omega
 obtain⟨G4,e4⟩:∃G4,Xm E (W.fr+1) G3=G4:=⟨_,rfl⟩;rw[e4]at q5 a4;refine⟨G1,G2,G3,G4,XM E G4,⟨?_,?_,?_,?_,?_⟩,?_⟩
 ·intro g u hu hB h;refine(YaG x F E D B g _ l xo n xcp N hr ?_ ⟨W,[]⟩ u hu hxB hB h hG.1.1 ?_ ?_).mono fun e w' ⟨h1,h2,h3⟩=>⟨h1,by rw[<- e1];exact h2,h3.mono (by simp)⟩
  ·intro i hi;have:=hl (cm l i) (by rw[JQ (by omega)];exact List.getElem_mem _);exact⟨this.1,this.2.1⟩
  ·have:=hG.2.2.2.2.2.1;show 0<=W.nx;omega
  ·exact few (by simp only[List.length_nil];omega) h47
 ·intro g u hB h;exact(YaP x F E D B g _ G1 u hB h (by rw[q1.1.1];exact hN) (few (by omega) h47)).mono fun e w' ⟨h1,h2,h3⟩=>⟨h1,by rw[<- e2];exact h2,h3.mono (by simp)⟩
 ·intro g u hB h;refine(YaK x F E D B g _ G2 N u hB h q2.1.1 q2.1.2.2.1 hN h48 ?_ (few (by omega) h47)).mono fun e w' ⟨h1,h2,h3⟩=>⟨h1,by rw[<- e3];exact h2,h3.mono (by simp)⟩;intro i hi;have hm:ss (Yq E G2.w.hs) i∈Yq E G2.w.hs:=by rw[ZZ hi];exact List.getElem_mem _
  have h1:=(q4.2.2.1 _ hm).1;have h2:0<=(ss (Yq E G2.w.hs) i).ow:=((flo_pw.1 q4.2.1).2.1 _ hm).2.1.1;exact⟨(ss (Yq E G2.w.hs) i).ow.toNat,by omega,by omega⟩
 ·intro g u hB h;exact(YaN x F E D B g _ G3 N u hB h q3.1.1 q3.1.2.2.1 hN (mayK_pw.1 q3.2.2.2.1).2.1 hs16 (by have:=q3.2.2.2.2.2.1;omega) (few (by omega) h47)).mono fun e w' ⟨h1,h2,h3⟩=>⟨h1,by rw[<- e4];exact h2,h3.mono (by simp)⟩
 ·intro g u hB h;exact(YaO x F E D B g _ G4 u hB h (by rw[q5.1.1];exact hst) (by rw[q5.1.1];exact hN) (few (by omega) h47)).mono fun e w' ⟨h1,h2,h3⟩=>⟨h1,h2,h3.mono (by simp)⟩
 ·unfold frame;simp only[e1,e2,e3,e4]
end
section
open Go.RowKit
open Pu Gp Ap Vp Np Za Ka Ja Ea Ha Hg Hi
attribute [local go_sem] zr Y0
theorem YaZ{R:Nat->Option Addr->Nat->Option Addr->Nat->Option Addr->Nat->Option Addr->Nat->World->Prop}{K:Act->World->Prop}{G:Prop}(h:∃A:Nat->Option Addr->Nat->Option Addr->Nat->Option Addr->Nat->Option Addr->Nat->Act,((∀k a a' b b' c c' d d' u,R k a a' b b' c c' d d' u->K (A k a a' b b' c c' d d') u)->G)/\∀k a a' b b' c c' d d' u,R k a a' b b' c c' d d' u->K (A k a a' b b' c c' d d') u):G:=by
 obtain⟨_,h1,h2⟩:=h;exact h1 h2
theorem Yba(N:Nat)(q C R:Int)(s:ByteArray)(lo:Option Addr)(ln lc:Nat)(E:Env)(l:List Int)(w:World)(v0:Int)(A:A13 w ⟨(N:Int),q,C,R,s,.slice lo ln lc⟩ v0 E.st)(D:D13 w ⟨(N:Int),q,C,R,s,.slice lo ln lc⟩ E)(hk:∀(x:Cm) (u:World),Yc w u->Calls Tryz.prog 117 #[od x.v x.a x.b x.c] u fun e w'=>e=.returned (.int .i64 (YB x.v x.a x.b x.c))/\Yc u w')(hr:RdI w lo ln lc l)(hc:Zm (N:Int) v0 E.st.length l)(hs16:E.sp.length<=16)(W:Wd)(v:Value)(hv:RdW w v W)(xo:Option Addr)(n xcp:Nat)(cs:List Cm)(hx:RdG KX w xo n cs)(h47:(n+300)*24<=140737488355328) :
    Calls Tryz.prog 10 #[.agg #[.int .i64 (N:Int),.int .u64 q,.int .i64 C,.int .i64 R,.string s,.slice lo ln lc],v,.slice xo n xcp] w fun e w'=>StQ w w' E W cs (stE (N:Int) v0 E l W cs) e:=by
  have HV:=hid hv;have HN:=hid (show N<=6/\N<=E.st.length by have:=hc.2.1;have:=hc.2.2.2.1;omega);obtain⟨r,hr'⟩:=exB (Z1 (N:Int) (W.fr+1) cs);have HE:Hid (stE (N:Int) v0 E l W cs=open Classical in if ¬Z0 (N:Int) E W then 131 else if(W.fr == 1099511627776)=true then 133 else if r=false then 132 else 0):=hid (by
    unfold stE;rw[if_neg (not_not_intro hc)]
    simp only[beq_iff_eq];congr 3
    rw[<- hr',Bool.not_eq_true])
  have HC:=hid (fun u (hu:Yc w u)=>YaV N q C R s lo ln lc E l u v0 (A.sT hu) (fun u=>D.sps u) (hr.sT hu) hc W _ (hv.sT hu));have HR:Hid (∀u,Yc w u->Ya 29 #[.agg #[.int .i64 (N:Int),.int .u64 q,.int .i64 C,.int .i64 R,.string s,.slice lo ln lc],.int .i64 (W.fr+1),.slice xo n xcp] u (.bool r)):=hid (fun u hu=>(Rs ⟨(N:Int),q,C,R,s,.slice lo ln lc⟩ (W.fr+1) cs xo n xcp u (hx.sT hu) (fun x z hz=>hk x z (hu.trans hz))).mono fun e w' h=>by
    obtain⟨vb,rfl,⟨bb,rfl,hb⟩,h3⟩:=h;rw[show bb=r by rw[Bool.eq_iff_iff,hb,hr']];exact⟨rfl,h3⟩)
  have HD:=hid D;have HX:=hid hx;have H47:=hid h47;have H16:=hid hs16;obtain⟨a,b,c,d,rfl,-⟩:=hv;clear hr hc A D hx h47 hs16 hk;by_cases hF:Z0 (N:Int) E W;rotate_left
  · rw[show stE (N:Int) v0 E l W cs=131 from by rw[HE.o,if_pos hF]]
    rw[Qg hF]at HC;clear HR HE hr' hF HX HD;go_in;go_wp2_with (go_at_call 28;refine zc (HC.o _ zst) ?_;intro J n0)
    exact bodyPost_ret (Y9 zbk rfl rfl) rfl ⟨fun h=>absurd h (by decide),fun _=>⟨rfl,zst⟩⟩
  have HE1:Hid (stE (N:Int) v0 E l W cs=open Classical in if(W.fr == 1099511627776)=true then 133 else if r=false then 132 else 0):=hid (by rw[HE.o,if_neg (not_not_intro hF)]);have HFi:=hid hF;have hfr:=hF.2;rw[JP hF]at HC;clear hF;cases hm:W.fr == 1099511627776;rotate_left
  · rw[show stE (N:Int) v0 E l W cs=133 from by rw[HE1.o,if_pos hm]]
    clear HR HE HE1 hr' HX HD;go_in;go_wp2_with (go_at_call 28;refine zc (HC.o _ zst) ?_;intro J n0)
    exact bodyPost_ret (Y9 zbk rfl rfl) rfl ⟨fun h=>absurd h (by decide),fun _=>⟨rfl,zst⟩⟩
  have hlt:W.fr<1099511627776:=by have:W.fr≠1099511627776:=(by simpa using hm);omega
  cases r
  · rw[show stE (N:Int) v0 E l W cs=132 from by rw[HE1.o,if_neg (by simp[hm]),if_pos rfl]]
    clear HE HE1 hr' hlt HX HD;go_in;go_wp2_with (first|(go_at_call 28;refine zc (HC.o _ zst) ?_;intro J n0)|(go_at_call 29;refine zc (HR.o _ zst) ?_;intro J3 n3))
    exact bodyPost_ret (Y9 zbk rfl rfl) rfl ⟨fun h=>absurd h (by decide),fun _=>⟨rfl,zst⟩⟩
  have HO:=hid (hr'.1 rfl);rw[show stE (N:Int) v0 E l W cs=0 from by rw[HE1.o,if_neg (by simp[hm]),if_neg (by simp)]];clear HE HE1 hr';have hwr:IntKind.i64.wrap (W.fr+1)=W.fr+1:=by rw[IntKind.wrap_i64];omega
  go_in;go_upto_region 9 with(first|(go_at_call 28;refine zc (HC.o _ zst) ?_;intro J n0)|(go_at_call 29;refine zc (HR.o _ zst) ?_;intro J3 n3))
  rename_i K0 a0;apply gw;intro w3 e3
  have HS3:Hid (Yc w w3):=hid (by rw[<- e3];exact zst);have HZ3:Hid (Wdb w3 (w.heap.size+1+1) 0 0 (.slice none 0 0) (.slice none 0 0) (.slice none 0 0) (.slice none 0 0)):=hid (by rw[<- e3];exact zbk);have HP3:Hid (Cfb w3 w.heap.size ⟨(N:Int),q,C,R,s,.slice lo ln lc⟩):=hid (by rw[<- e3];exact zbk);have HW3:Hid (Wdb w3 (w.heap.size+1) W.fr W.nx a b c d):=hid (by rw[<- e3];exact zbk);clear e3 HC HR;have hG:Ha.Good N E W:=by have:=HFi.o.1;rw[Int.toNat_natCast]at this;exact this
  have HCp:=hid (fun u (hu:Yc w3 u)=>YaU W _ u (HV.o.sT (HS3.o.trans hu)) ⟨by have:=hG.1.1;have:=HN.o.1;omega,by have:=hG.1.2.2.1;have:=HN.o.1;omega,by have:=(flo_pw.1 hG.2.1).1;omega,by have:=(mayK_pw.1 hG.2.2.2.1).2.1;omega⟩);obtain⟨B,eB⟩:∃b,w3.heap.size=b:=⟨_,rfl⟩;obtain⟨G1,G2,G3,G4,G5,hPh,hFrm⟩:=YaY w ⟨(N:Int),q,C,R,s,.slice lo ln lc⟩ E HD.o B W N cs xo n xcp HX.o (by rw[<- eB];exact HS3.o.size) HN.o.1 HN.o.2 H16.o hG (FO HO.o) H47.o;have HPh:=hid hPh;have HFm:=hid hFrm;have HEB:=hid eB;have HB0:Hid (w.heap.size<=B):=hid (by rw[<- eB];exact HS3.o.size);have hB2:w.heap.size+1+1<B:=by
    have:=Yz HZ3.o;omega
  clear hG hPh hFrm eB;obtain⟨c0,c1,c2,c3,c4,c5,cf⟩:=HP3.o.cells;obtain⟨d0,d1,d2,d3,d4,d5,df⟩:=HW3.o.cells;refine YaZ (K:=K0) (R:=fun k _ _ _ _ _ _ _ _ u=>GmM B u k ⟨(N:Int),q,C,R,s,.slice lo ln lc⟩ (W.fr+1) ⟨W,[]⟩/\Yc w3 u) ?_;apply Exists.intro;refine And.intro ?_ ?_
  · intro hk
    go_region_with (go_at_call 30;refine(HCp.o _ (by first|exact Fr.refl _ _|exact(Fr.refl _ w3).drew|exact(Fr.refl _ w3).drewN _)).mono ?_;rintro e w4 ⟨u4,rfl,⟨a,b,c,d,rfl,q1,q2,q3,q4⟩,h4⟩;obtain⟨ra,rac,rfl,_⟩:=q1.slice;obtain⟨rb,rbc,rfl,_⟩:=q2.slice;obtain⟨rc,rcc,rfl,_⟩:=q3.slice;obtain⟨rd,rdc,rfl,_⟩:=q4.slice;have g4:Yc w3 w4:=(by first|exact h4|exact Yc.trans ((Fr.refl _ w3).drew) h4|exact Yc.trans ((Fr.refl _ w3).drewN _) h4);have Q4:=hid (And.intro (q1.less (B':=w3.heap.size) (by simp)) (And.intro (q2.less (B':=w3.heap.size) (by simp)) (And.intro (q3.less (B':=w3.heap.size) (by simp)) (q4.less (B':=w3.heap.size) (by simp)))));have HG4:=hid g4;have HW4:=hid (HW3.o.sT g4);have HP4:=hid (HP3.o.sT g4);clear q1 q2 q3 q4 h4 g4;obtain⟨f0,f1,f2,f3,f4,f5,ff⟩:=HW4.o.cells;obtain⟨g0,g1,g2,g3,g4,g5,gf⟩:=HP4.o.cells)
    all_goals (
      have A5:=sA w4 (.cells (gmc ⟨(N:Int),q,C,R,s,.slice lo ln lc⟩ (W.fr+1) W.fr W.nx (.slice ra W.ms.length rac) (.slice rb W.cs.length rbc) (.slice rc W.hs.length rcc) (.slice rd W.ks.length rdc) (.slice none 0 0)) 83);have HR4:Hid (GmM B (w4.alloc (.cells (gmc ⟨(N:Int),q,C,R,s,.slice lo ln lc⟩ (W.fr+1) W.fr W.nx (.slice ra W.ms.length rac) (.slice rb W.cs.length rbc) (.slice rc W.hs.length rcc) (.slice rd W.ks.length rdc) (.slice none 0 0)) 83)) w4.heap.size ⟨(N:Int),q,C,R,s,.slice lo ln lc⟩ (W.fr+1) ⟨W,[]⟩/\Yc w3 (w4.alloc (.cells (gmc ⟨(N:Int),q,C,R,s,.slice lo ln lc⟩ (W.fr+1) W.fr W.nx (.slice ra W.ms.length rac) (.slice rb W.cs.length rbc) (.slice rc W.hs.length rcc) (.slice rd W.ks.length rdc) (.slice none 0 0)) 83))):=hid (by
        have hq:=Q4.o;rw[HEB.o]at hq;exact⟨⟨by rw[<- HEB.o];exact HG4.o.size,_,_,_,_,_,heap_alloc_new w4 _,hq.1.sT A5,hq.2.1.sT A5,hq.2.2.1.sT A5,hq.2.2.2.sT A5,OwG.nil _ _⟩,HG4.o.trans A5⟩)
      clear A5;obtain⟨gk,egk⟩:∃z,w4.heap.size=z:=⟨_,rfl⟩;rw[egk]at HR4;show K0 _ _;simp only[Act.put,List.setIfInBounds_toArray,egk];exact hk gk ra rac rb rbc rc rcc rd rdc _ HR4.o)
  intro gk ra rac rb rbc rc rcc rd rdc u0 ⟨hg0,h0⟩;have HG0:=hid hg0;have HF0:Hid (FrT B [83,59,67,69,71,47] u0 u0/\B<=u0.heap.size):=hid ⟨FrT.refl _ _ _,by rw[<- HEB.o];exact h0.size⟩;have HSu:=hid (HS3.o.trans h0);have HZ5:=hid (HZ3.o.sT h0);refine a0 _ _ ?_;clear hg0 h0 c0 c1 c2 c3 c4 c5 cf d0 d1 d2 d3 d4 d5 df HCp a0 HP3 HW3 HS3 HZ3 HV;have HC:=hid (HPh.o.c1 gk _ HSu.o HF0.o.2 HG0.o);go_wp2_with fail;refine HC.o.mono ?_;rintro e u1 ⟨⟨v1,rfl⟩,hg1,hf1⟩;have HG1:=hid hg1;have HF1:Hid (FrT B [83,59,67,69,71,47] u0 u1/\B<=u1.heap.size):=hid ⟨HF0.o.1.trans hf1,Nat.le_trans HF0.o.2 hf1.size⟩;clear hg1 hf1 HC;have HC:=hid (HPh.o.c2 gk _ HF1.o.2 HG1.o);go_wp2_with fail;refine HC.o.mono ?_;rintro e u2 ⟨⟨v2,rfl⟩,hg2,hf2⟩;have HG2:=hid hg2;have HF2:Hid (FrT B [83,59,67,69,71,47] u0 u2/\B<=u2.heap.size):=hid ⟨HF1.o.1.trans hf2,Nat.le_trans HF1.o.2 hf2.size⟩;clear hg2 hf2 HC;have HC:=hid (HPh.o.c3 gk _ HF2.o.2 HG2.o);go_wp2_with fail;refine HC.o.mono ?_;rintro e u3 ⟨⟨v3,rfl⟩,hg3,hf3⟩;have HG3:=hid hg3;have HF3:Hid (FrT B [83,59,67,69,71,47] u0 u3/\B<=u3.heap.size):=hid ⟨HF2.o.1.trans hf3,Nat.le_trans HF2.o.2 hf3.size⟩;clear hg3 hf3 HC;have HC:=hid (HPh.o.c4 gk _ HF3.o.2 HG3.o);go_wp2_with fail;refine HC.o.mono ?_;rintro e u4 ⟨⟨v4,rfl⟩,hg4,hf4⟩;have HG4:=hid hg4;have HF4:Hid (FrT B [83,59,67,69,71,47] u0 u4/\B<=u4.heap.size):=hid ⟨HF3.o.1.trans hf4,Nat.le_trans HF3.o.2 hf4.size⟩;clear hg4 hf4 HC;have HC:=hid (HPh.o.c5 gk _ HF4.o.2 HG4.o);go_wp2_with fail;refine HC.o.mono ?_;rintro e u5 ⟨⟨v5,rfl⟩,hg5,hf5⟩;have HG5:=hid hg5;have HF5:Hid (FrT B [83,59,67,69,71,47] u0 u5/\B<=u5.heap.size):=hid ⟨HF4.o.1.trans hf5,Nat.le_trans HF4.o.2 hf5.size⟩;clear hg5 hf5 HC;obtain⟨xa',xb',xc',xd',xe',hx⟩:=HG5.o.gx;obtain⟨ya',yc1,rfl,_⟩:=hx.o1.slice;obtain⟨yb',yc2,rfl,_⟩:=hx.o2.slice;obtain⟨yc',yc3,rfl,_⟩:=hx.o3.slice;obtain⟨yd',yc4,rfl,_⟩:=hx.o4.slice;obtain⟨ye',yc5,rfl,_⟩:=hx.o5.slice;have HX6:=hid (hx.setF (W.fr+1));have HS6:=hid (((HF5.o.1.trans ((hx.frT 6 (.int .i64 (W.fr+1))).mono (by simp)))).old HSu.o HB0.o);have HZ6:Hid (Wdb (u5.setCell ⟨gk,6,none⟩ (.int .i64 (W.fr+1))) (w.heap.size+1+1) 0 0 (.slice none 0 0) (.slice none 0 0) (.slice none 0 0) (.slice none 0 0)):=hid ((HF5.o.1.trans ((hx.frT 6 (.int .i64 (W.fr+1))).mono (by simp))).kept HZ5.o (by decide));obtain⟨W6,eW6⟩:∃X,(u5.setCell ⟨gk,6,none⟩ (.int .i64 (W.fr+1)))=X:=⟨_,rfl⟩;rw[eW6]at HX6 HS6 HZ6;obtain⟨c0,c1,c2,c3,c4,c5,c6,c7,c8,c9,c10,c11,c12,c13,cf⟩:=hx.k.cells;clear hx HG0 HG1 HG2 HG3 HG4 HG5 HF0 HF1 HF2 HF3 HF4 HF5 HZ5 HPh;obtain⟨m1,f1⟩:∃k,G5.w.ms.length=k:=⟨_,rfl⟩;obtain⟨m2,f2⟩:∃k,G5.w.cs.length=k:=⟨_,rfl⟩;obtain⟨m3,f3⟩:∃k,G5.w.hs.length=k:=⟨_,rfl⟩;obtain⟨m4,f4⟩:∃k,G5.w.ks.length=k:=⟨_,rfl⟩;obtain⟨m5,f5⟩:∃k,G5.ns.length=k:=⟨_,rfl⟩;obtain⟨nx',f7⟩:∃k,G5.w.nx=k:=⟨_,rfl⟩;have HN7:=hid f7;rw[f1,f2,f3,f4,f5]at HX6;clear f1 f2 f3 f4 f5 f7;have ng:gk≠w.heap.size+1+1:=by have:=HX6.o.hb;omega
  have ng':w.heap.size+1+1≠gk:=by have:=HX6.o.hb;omega
  go_upto_region 16 with fail;clear c0 c1 c2 c3 c4 c5 c6 c7 c8 c9 c10 c11 c12 c13 cf eW6;obtain⟨c0,c1,c2,c3,c4,c5,c6,c7,c8,c9,c10,c11,c12,c13,cf⟩:=HX6.o.k.cells;dsimp only at c0 c1 c2 c3 c4 c5 c6 c11;rw[HN7.o]at c11;obtain⟨z0,z1,z2,z3,z4,z5,zf⟩:=HZ6.o.cells;go_region
  go_wp2_with fail;obtain⟨f1,f2,f3⟩:=FA HZ6.o HS6.o (by omega) (W.fr+1) nx' (.slice ya' m1 yc1) (.slice yb' m2 yc2) (.slice yc' m3 yc3) (.slice yd' m4 yc4);refine bodyPost_ret (Y9 f1 rfl rfl) rfl ⟨fun _=>⟨⟨_,_,rfl,?_,?_⟩,f2⟩,fun h=>absurd rfl h⟩
  · rw[HFm.o]
    exact⟨_,_,_,_,by simp only[HN7.o],f3 (HX6.o.o1.less HB0.o) (by decide),f3 (HX6.o.o2.less HB0.o) (by decide),f3 (HX6.o.o3.less HB0.o) (by decide),f3 (HX6.o.o4.less HB0.o) (by decide)⟩
  · rw[HFm.o]
    exact f3 (HX6.o.o5.less HB0.o) (by decide)
end
end Go.Proofs.YtcgmohldcokccaaGreatDoor
