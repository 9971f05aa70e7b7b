import Derived.Test.YtcgmohldcokccaaGreatDoorXR06
import Derived.Test.YtcgmohldcokccaaGreatDoorXR08
import Derived.Test.YtcgmohldcokccaaGreatDoorXR04
set_option linter.unusedVariables false
set_option maxHeartbeats 4000000
set_option maxRecDepth 100000
namespace Go.Proofs.YtcgmohldcokccaaGreatDoor
section
open Go.RowKit
open Ea
abbrev ccs(x:Scr):Array Value:=#[.int .i64 x.p,.int .i64 x.h,.int .i64 x.o,.int .i64 x.k]
abbrev cv(x:Scr):Value:=.agg (ccs x)
def Cb(w:World)(g:Nat)(x:Scr):Prop:=w.heap[g]?=some (.cells (ccs x) 67 (0,0))
theorem Cb.sT{w w':World}{g:Nat}{x:Scr}(h:Cb w g x)(hs:Yc w w'):Cb w' g x:=hs.kept_still h
theorem Cb.cells{w:World}{g:Nat}{x:Scr}(h:Cb w g x):w.cell? ⟨g,0,none⟩=some (.int .i64 x.p)/\w.cell? ⟨g,1,none⟩=some (.int .i64 x.h)/\w.cell? ⟨g,2,none⟩=some (.int .i64 x.o)/\w.cell? ⟨g,3,none⟩=some (.int .i64 x.k)/\∀o,w.frozen? ⟨g,o,none⟩=false:=by
 refine⟨?_,?_,?_,?_,fun o=>frozen_of_row w g o _ _ h⟩<;>(rw[cell_of_row _ _ _ _ _ _ h];rfl)
abbrev MI(w:World)(x:Scr):World:=w.alloc (.cells (ccs x) 67)
theorem Nm(w:World)(x:Scr):Cb (MI w x) w.heap.size x:=heap_alloc_new w _
theorem Cb.put{w:World}{g:Nat}{x:Scr}(h0:Cb w g x)(a b c d:Int):Cb ((((w.setCell ⟨g,0,none⟩ (.int .i64 a)).setCell ⟨g,1,none⟩ (.int .i64 b)).setCell ⟨g,2,none⟩ (.int .i64 c)).setCell ⟨g,3,none⟩ (.int .i64 d)) g ⟨a,b,c,d⟩:=by
 unfold Cb at h0⊢;have h1:=heap_setCell_same _ g 0 _ _ (.int .i64 a) h0;have h2:=heap_setCell_same _ g 1 _ _ (.int .i64 b) h1;have h3:=heap_setCell_same _ g 2 _ _ (.int .i64 c) h2;have h4:=heap_setCell_same _ g 3 _ _ (.int .i64 d) h3;exact h4.trans (by kernel_rfl)
def eqC(x y:Scr):Bool:=(x.p == y.p) && ((x.h == y.h) && ((x.o == y.o) && (x.k == y.k)))
theorem MJ(x:Scr):eqC x x=true:=by unfold eqC;simp
theorem VD(x:Scr)(w:World):(part 3 (ccs x) 0).run Tryz.prog w=.ok (.int .i64 x.p) w/\(part 3 (ccs x) 1).run Tryz.prog w=.ok (.int .i64 x.h) w/\(part 3 (ccs x) 2).run Tryz.prog w=.ok (.int .i64 x.o) w/\(part 3 (ccs x) 3).run Tryz.prog w=.ok (.int .i64 x.k) w:=by
 refine⟨?_,?_,?_,?_⟩<;>go_simp
theorem Qi(d:Nat)(x y:Int)(w:World):(Op.equalIn (d+1) 3 (.int .i64 x) (.int .i64 y)).run Tryz.prog w=.ok (x == y) w:=by
 go_simp
theorem stC{b c:Bool}{w:World}{R:Result Bool}(h:R=.ok c w):(if(!b)=true then Result.ok false w else R)=.ok (b && c) w:=by
 cases b<;>simp[h]
theorem MK(b:Bool){w:World}:(if(!b)=true then Result.ok false w else Result.ok true w)=.ok b w:=by
 cases b<;>rfl
theorem ML(x y:Scr)(w:World):(Op.equalIn 10000 67 (cv x) (cv y)).run Tryz.prog w=.ok (eqC x y) w:=by
 have c0:=fun w=>(VD x w).1;have d0:=fun w=>(VD y w).1;have r0:=fun w=>Qi 9998 x.p y.p w;have c1:=fun w=>(VD x w).2.1;have d1:=fun w=>(VD y w).2.1;have r1:=fun w=>Qi 9998 x.h y.h w;have c2:=fun w=>(VD x w).2.2.1;have d2:=fun w=>(VD y w).2.2.1;have r2:=fun w=>Qi 9998 x.o y.o w;have c3:=fun w=>(VD x w).2.2.2;have d3:=fun w=>(VD y w).2.2.2;have r3:=fun w=>Qi 9998 x.k y.k w;rw[run_equalIn_struct w 9999 _ _ _ (by kernel_rfl) (by kernel_rfl)];have e : (Tryz.prog.fieldsOf 67) = #[⟨ "Points", 3, 0, false, "", "", 0⟩, ⟨ "Hits", 3, 1, false, "", "", 8⟩, ⟨ "Outs", 3, 2, false, "", "", 16⟩, ⟨ "Streak", 3, 3, false, "", "", 24⟩]:=by kernel_rfl
 rw[e];simp only[Op.eqFields,ne_eq,String.reduceEq,not_false_eq_true,if_true,Sem.run_bind,c0,c1,c2,c3,d0,d1,d2,d3,Result.andThen_ok,r0,r1,r2,r3,Sem.run_ite,Sem.run_pure];unfold eqC;exact stC (stC (stC (MK _)))
theorem MM(x y:Scr)(w:World):(binOp .neq 67 (cv x) (cv y)).run Tryz.prog w=.ok (.bool (!eqC x y)) w:=by
 rw[run_neq_struct,ML];rfl
theorem MN(x:Scr)(w:World):(binOp .neq 67 (cv x) (cv x)).run Tryz.prog w=.ok (.bool false) w:=by
 rw[MM,MJ];rfl
theorem MO(op:BinOp)(a b:Operand)(xs ys:Array Value)(w:World):(eqGuard op 67 a b (.agg xs) (.agg ys)).run Tryz.prog w=.ok () w:=run_eqGuard_agg w op _ a b xs ys (by kernel_rfl)
def KC:Kd Scr:=⟨fun m=>(ccs m).toList,4,zC,fun _=>rfl,fun m u hu=>by
 simp at hu;rcases hu with rfl|rfl|rfl|rfl<;>rfl,by decide⟩
theorem Qj:∃i,Tryz.prog.info? 67=some i/\i.zero=some (.agg (KC.f KC.d).toArray)/\i.size=KC.k/\i.bytes=32:=⟨_,rfl,rfl,rfl,rfl⟩
theorem rdC{w:World}{B o n:Nat}{L:List Scr}(h:RdG KC w (some ⟨B,o,none⟩) n L){i:Nat}(hi:i<n):w.cell? ⟨B,o+i*4,none⟩=some (.int .i64 (sc L i).p)/\w.cell? ⟨B,o+i*4+1,none⟩=some (.int .i64 (sc L i).h)/\w.cell? ⟨B,o+i*4+2,none⟩=some (.int .i64 (sc L i).o)/\w.cell? ⟨B,o+i*4+3,none⟩=some (.int .i64 (sc L i).k):=
 ⟨h.get hi 0 _ rfl,h.get hi 1 _ rfl,h.get hi 2 _ rfl,h.get hi 3 _ rfl⟩
theorem owC{e:TypeId}{w:World}{B g n cap:Nat}{L:List Scr}(h:OwG KC e w B (.slice (some ⟨g,0,none⟩) n cap) L){i:Nat}(hi:i<L.length):w.cell? ⟨g,i*4,none⟩=some (.int .i64 (sc L i).p)/\w.cell? ⟨g,i*4+1,none⟩=some (.int .i64 (sc L i).h)/\w.cell? ⟨g,i*4+2,none⟩=some (.int .i64 (sc L i).o)/\w.cell? ⟨g,i*4+3,none⟩=some (.int .i64 (sc L i).k)/\∀o,w.frozen? ⟨g,o,none⟩=false:=
 ⟨h.get hi 0 _ rfl,h.get hi 1 _ rfl,h.get hi 2 _ rfl,h.get hi 3 _ rfl,h.frozen⟩
end
namespace Ea
def pl(R:List Int)(a:Nat):Nat:=(R.getD a 0).toNat
def cI(x y:Int):Int:=if x<y then -1 else if x > y then 1 else 0
def orI:List Int->Int
 | []=>0
 | x :: r=>if x≠0 then x else orI r
theorem Qk(x y:Int):x<y/\cI x y=-1\/x=y/\cI x y=0\/y<x/\cI x y=1:=by
 unfold cI;by_cases h1:x<y
 ·rw[if_pos h1];exact .inl ⟨h1,rfl⟩
 ·rw[if_neg h1];by_cases h2:x > y
  ·rw[if_pos h2];exact .inr (.inr ⟨h2,rfl⟩)
  ·rw[if_neg h2];exact .inr (.inl ⟨by omega,rfl⟩)
end Ea
section
open Go.RowKit
open Ea
attribute [local go_sem] zr Y0
theorem MP(n a b:Int)(w:World):Ya 218 #[.int .i64 n,.int .i64 a,.int .i64 b] w (.bool (decide (a<=n/\n<=b))):=by
 unfold Ya;go_in;go_wp2
 all_goals go_ret;exact⟨by simp_all<;>omega,zst⟩
theorem Dj(n:Int)(w:World):Ya 219 #[.int .i64 n] w (.bool (decide (0<=n/\n<=2147483647))):=by
 unfold Ya;go_in;go_wp2
 all_goals go_ret;exact⟨by simp_all<;>omega,zst⟩
theorem MQ(n:Int):max (-2147483647) (min 2147483647 n)=bdC n:=by
 unfold bdC;split<;>(try split)<;>omega
theorem Nq(n m:Int)(h1:-9223372036854775808<=n+m)(h2:n+m<=9223372036854775807)(w:World):Ya 251 #[.int .i64 n,.int .i64 m] w (.int .i64 (bdC (n+m))):=by
 have HE:=hid (MQ (n+m));unfold Ya;go_in;go_wp2_with fail;go_ret
 exact⟨by rw[<- HE.o];rfl,zst⟩
theorem MR(x:Scr):ZY x=(decide (-2147483647<=x.p/\x.p<=2147483647) && (decide (0<=x.h/\x.h<=2147483647) && (decide (0<=x.o/\x.o<=2147483647) && decide (0<=x.k/\x.k<=2147483647)))):=by
 rw[Bool.eq_iff_iff,mayC_iff];unfold Ym;simp only[Bool.and_eq_true,decide_eq_true_eq]
theorem Ql(x:Scr)(w:World):Ya 162 #[cv x] w (.bool (ZY x)):=by
 have k0:=hid (MP x.p (-2147483647) 2147483647);have k1:=hid (Dj x.h);have k2:=hid (Dj x.o);have k3:=hid (Dj x.k);have HR:=hid (MR x);generalize decide (-2147483647<=x.p/\x.p<=2147483647)=b0 at *
 generalize decide (0<=x.h/\x.h<=2147483647)=b1 at *
 generalize decide (0<=x.o/\x.o<=2147483647)=b2 at *
 generalize decide (0<=x.k/\x.k<=2147483647)=b3 at *
 unfold Ya;go_in;go_wp2_with (first|(go_at_call 218;with_reducible refine zc (k0.o _) ?_;intro J n)|(go_at_call 219;(first|with_reducible refine zc (k1.o _) ?_|with_reducible refine zc (k2.o _) ?_|with_reducible refine zc (k3.o _) ?_);intro J n))
 all_goals go_ret;exact⟨by rw[HR.o];simp_all,zst⟩
theorem MS(x:Scr)(w:World):Ya 97 #[cv x] w (.int .i64 (YZ x)):=by
 have H:=hid (Ql x);unfold YZ Ya;generalize ZY x=b at *
 go_in;go_wp2_with (go_at_call 162;refine zc (H.o _) ?_;intro J n0)
 all_goals go_ret;exact⟨by simp_all,zst⟩
theorem MT(x:Scr)(n:Int)(w:World):Ya 182 #[cv x,.int .i64 n] w (.tuple #[cv (Z8 x n),.int .i64 (Xl x n)]):=by
 have H:=hid (Ql x);by_cases hm:Ym x
 ·rw[mayC_iff.2 hm]at H;have HM:=hid hm;obtain⟨⟨p1,p2⟩,-⟩:=hm;by_cases hn:0<=n/\n<=100
  ·have HE:=hid (GY HM.o hn);obtain⟨n1,n2⟩:=hn;unfold Ya;go_in;go_wp2_with (first|(go_at_call 162;refine zc (H.o _) ?_;intro J n0)|(go_at_call 251;refine zc (Nq _ _ (by omega) (by omega) _) ?_;intro J1 n1)|go_in)
   refine bodyPost_ret (YF zbk rfl rfl) rfl ⟨?_,zst⟩;simp[Z8,HE.o]
  ·have HE:=hid (ER HM.o hn);unfold Ya;go_in;go_wp2_with (first|(go_at_call 162;refine zc (H.o _) ?_;intro J n0)|(go_at_call 251;fail)|go_in)
   all_goals first
    | (refine bodyPost_ret (YF zbk rfl rfl) rfl ⟨?_,zst⟩;simp[Z8,HE.o,zC];done)
    | (exfalso;simp_all;omega)
 ·have HE:=hid (ET (n:=n) hm);rw[JK hm]at H;unfold Ya;go_in;go_wp2_with (go_at_call 162;refine zc (H.o _) ?_;intro J n0)
  refine bodyPost_ret (YF zbk rfl rfl) rfl ⟨?_,zst⟩;simp[Z8,HE.o,zC]
theorem Dk{p:Prop}(h:p:=by
  obtain⟨⟨p1,p2⟩,⟨p3,p4⟩,⟨p5,p6⟩,p7,p8⟩:=hm;unfold Ya;go_in;go_wp2_with (go_at_call 251;refine zc (Nq _ _ (by omega) (by omega) _) ?_;intro J1 n1)
  exact bodyPost_ret (XV zbk rfl rfl) rfl ⟨by simp,zst⟩):p:=h
theorem MU(x:Scr)(n:Int)(hm:Ym x)(hn:1<=n/\n<=3)(w:World):Ya 293 #[cv x,.int .i64 n] w (cv ⟨bdC (x.p+n),bdC (x.h+1),x.o,x.k⟩):=by
 obtain⟨n1,n2⟩:=hn;exact Dk
theorem MV(x:Scr)(hm:Ym x)(w:World):Ya 294 #[cv x] w (cv ⟨bdC (x.p+(10+min x.k 5)),x.h,x.o,bdC (x.k+1)⟩):=Dk
theorem MW(x:Scr)(hm:Ym x)(w:World):Ya 295 #[cv x] w (cv ⟨bdC (x.p+(-2)),x.h,bdC (x.o+1),0⟩):=Dk
theorem MX{p n m:Int}(hp:-2147483647<=p)(hn:0<=n)(hm:0<=m):bdC (bdC (p+n)+m)=bdC (p+(n+m)):=by
 unfold bdC;split<;>(try split)<;>(try split)<;>(try split)<;>omega
theorem MY(a b:Scr)(n:Int)(out:Bool)(w:World):Ya 246 #[cv a,cv b,.int .i64 n,.bool out] w (.tuple #[cv (Zb a b n out),cv (Zc a b n out),.int .i64 (Zr a b n)]):=by
 have Ha:=hid (Ql a);have Hb:=hid (Ql b);by_cases hm:Ym a/\Ym b
 ·obtain⟨ha,hb⟩:=hm;rw[mayC_iff.2 ha]at Ha;rw[mayC_iff.2 hb]at Hb;by_cases hn:1<=n/\n<=3
  ·have H1:=hid (MU a n ha hn);have H3:=hid (MW b hb);obtain⟨h1,h2,h3,h4⟩:=id ha;have H2:=hid (MV ⟨bdC (a.p+n),bdC (a.h+1),a.o,a.k⟩ ⟨VB _,⟨Qa (by omega),(VB _).2⟩,h3,h4⟩);have e:bdC (bdC (a.p+n)+(10+min a.k 5))=bdC (a.p+(n+10+(if a.k<5 then a.k else 5))):=by
    rw[MX h1.1 (by omega) (by omega),show n+(10+min a.k 5)=n+10+(if a.k<5 then a.k else 5) by split<;>omega]
   dsimp only at H2;rw[e]at H2;have HE:Hid ((.tuple #[cv (Zb a b n out),cv (Zc a b n out),.int .i64 (Zr a b n)]:Value)=.tuple #[cv (VC a n out),cv (Vg b out),.int .i64 0]):=hid (by unfold Zb Zc;rw[GX ha hb hn];rfl);rw[HE.o];clear ha hb h1 h2 h3 h4 e HE;obtain⟨n1,n2⟩:=hn;cases out;all_goals
    unfold Ya;go_in;go_wp2_with (first|(go_at_call 162;(first|with_reducible refine zc (Ha.o _) ?_|with_reducible refine zc (Hb.o _) ?_);intro J n)|(go_at_call 293;refine zc (H1.o _) ?_;intro J1 n1)|(go_at_call 294;refine zc (H2.o _) ?_;intro J2 n2)|(go_at_call 295;refine zc (H3.o _) ?_;intro J3 n3)|go_in)
    try (
     refine Yp 4 (by kernel_rfl) (by kernel_rfl) ?_;simp only[tkd];repeat(go_big_quiet_step (first|(go_at_call 294;exact Calls.cl (H2.o _))|(go_at_call 295;exact Calls.cl (H3.o _))))
     refine wpQuiet_nil ?_;intro w' h';obtain⟨J6,n6,rfl⟩:=h'.more
     go_wp2_with fail)
    all_goals try (go_region;all_goals go_wp2_with fail)
    all_goals
     refine bodyPost_ret (X3 zbk zbk rfl rfl rfl) rfl ⟨?_,zst⟩;first|(simp[VC,Vg,JL];done)|(go_tidy;clear H1 H2 H3;simp[VC,Vg,JL,Int.sub_eq_add_neg];split<;>first|rfl|(congr 2;omega))
  ·have HE:Hid ((.tuple #[cv (Zb a b n out),cv (Zc a b n out),.int .i64 (Zr a b n)]:Value)=.tuple #[cv zC,cv zC,.int .i64 1]):=hid (by unfold Zb Zc;rw[EO ha hb hn];rfl);rw[HE.o];clear ha hb HE;unfold Ya;go_in;go_wp2_with (first|(go_at_call 162;(first|with_reducible refine zc (Ha.o _) ?_|with_reducible refine zc (Hb.o _) ?_);intro J n)|(go_at_call 293;fail)|go_in)
   all_goals first
    | (refine bodyPost_ret (X3 zbk zbk rfl rfl rfl) rfl ⟨by simp[zC],zst⟩)
    | (exfalso;simp_all;omega)
 ·have HE:Hid ((.tuple #[cv (Zb a b n out),cv (Zc a b n out),.int .i64 (Zr a b n)]:Value)=.tuple #[cv zC,cv zC,.int .i64 120]):=hid (by unfold Zb Zc;rw[EP hm];rfl);rw[HE.o];clear HE;have HN:Hid ((ZY a && ZY b)=false):=hid (by rw[Bool.and_eq_false_iff];by_cases h:Ym a;exact .inr (JK fun k=>hm ⟨h,k⟩);exact .inl (JK h));clear hm;generalize ZY a=x at *
  generalize ZY b=y at *
  cases x<;>cases y
  all_goals
   first|(exfalso;have h:=HN.o;simp at h;done)|skip
  all_goals
   unfold Ya;go_in;go_wp2_with (go_at_call 162;(first|with_reducible refine zc (Ha.o _) ?_|with_reducible refine zc (Hb.o _) ?_);intro J n)
   exact bodyPost_ret (X3 zbk zbk rfl rfl rfl) rfl ⟨by simp[zC],zst⟩
end
section
open Go.RowKit
section
variable {P:Program}
end
end
section
open Go.RowKit
open Ea
attribute [local go_sem] zr Y0
theorem Qm(n:Int)(w:World):Yb 133 #[.int .i64 n] w (.int .i64 (bdC n)):=by
 unfold Yb;go_in;go_wp2
 all_goals go_ret;exact⟨by unfold bdC;simp[*]<;>omega,rfl⟩
theorem Qn(x:Scr)(w:World):Ya 115 #[cv x] w (.int .i64 (YZ x)):=by
 unfold Ya;go_in;go_wp2
 all_goals go_ret;exact⟨by first|(rw[Ue (show Ym x by unfold Ym;omega)];rfl)|(rw[UR (show ¬Ym x by unfold Ym;omega)];rfl),zst⟩
theorem MZ(x:Scr)(n:Int)(w:World):Ya 76 #[cv x,.int .i64 n] w (.tuple #[cv (Z8 x n),.int .i64 (Xl x n)]):=by
 have H:=hid (Qn x);by_cases hm:Ym x
 ·rw[Ue hm]at H;have HM:=hid hm;obtain⟨⟨p1,p2⟩,-⟩:=hm;by_cases hn:0<=n/\n<=100
  ·have HE:=hid (GY HM.o hn);obtain⟨n1,n2⟩:=hn;unfold Ya;go_in;go_wp2_with (first|(go_at_call 115;refine zc (H.o _) ?_;intro J n0)|(go_at_call 133;refine zc (Ya.of (Qm _ _)) ?_;intro J1 n1))
   refine bodyPost_ret (YF zbk rfl rfl) rfl ⟨?_,zst⟩;simp[Z8,HE.o]
  ·have HE:=hid (ER HM.o hn);unfold Ya;go_in;go_wp2_with (first|(go_at_call 115;refine zc (H.o _) ?_;intro J n0)|(go_at_call 133;refine zc (Ya.of (Qm _ _)) ?_;intro J1 n1))
   all_goals first
    | (exfalso;simp_all;omega)
    | (refine bodyPost_ret (YF zbk rfl rfl) rfl ⟨?_,zst⟩;simp[Z8,HE.o,zC];done)
 ·have HE:=hid (ET (n:=n) hm);rw[UR hm]at H;unfold Ya;go_in;go_wp2_with (go_at_call 115;refine zc (H.o _) ?_;intro J n0)
  refine bodyPost_ret (YF zbk rfl rfl) rfl ⟨?_,zst⟩;simp[Z8,HE.o,zC]
theorem Ra(a b:Scr)(n:Int)(out:Bool)(w:World):Ya 131 #[cv a,cv b,.int .i64 n,.bool out] w (.tuple #[cv (Zb a b n out),cv (Zc a b n out),.int .i64 (Zr a b n)]):=by
 have Ha:=hid (Qn a);have Hb:=hid (Qn b);by_cases hm:Ym a/\Ym b
 ·obtain⟨ha,hb⟩:=hm;rw[Ue ha]at Ha;rw[Ue hb]at Hb;by_cases hn:1<=n/\n<=3
  ·have HE:Hid ((.tuple #[cv (Zb a b n out),cv (Zc a b n out),.int .i64 (Zr a b n)]:Value)=.tuple #[cv (VC a n out),cv (Vg b out),.int .i64 0]):=hid (by unfold Zb Zc;rw[GX ha hb hn];rfl);rw[HE.o];clear HE;obtain⟨n1,n2⟩:=hn;obtain⟨⟨p1,p2⟩,⟨p3,p4⟩,⟨p5,p6⟩,p7,p8⟩:=ha;obtain⟨⟨q1,q2⟩,⟨q3,q4⟩,⟨q5,q6⟩,q7,q8⟩:=hb;unfold Ya;cases out;all_goals
    go_in;go_wp2_with (first|(go_at_call 115;(first|with_reducible refine zc (Ha.o _) ?_|with_reducible refine zc (Hb.o _) ?_);intro J n0)|(go_at_call 133;refine zc (Ya.of (Qm _ _)) ?_;intro J n0))
   ·try (go_region;all_goals go_wp2_with fail)
    all_goals
     refine bodyPost_ret (X3 zbk zbk rfl rfl rfl) rfl ⟨?_,zst⟩;simp[VC,Vg,JL]
   refine gw ?_;intro W eW
   go_loopw [13,14] (fun v u wr=>∃j:Int,0<=j/\j<=5/\j<=a.k/\v=.int .i64 (n+10+j)/\u=.int .i64 j/\wr=W) (fun _ u _=>5-(intOf u).toNat);case atStart=>exact⟨0,by omega,by omega,by omega,by simp,rfl,rfl⟩
   case round =>
    obtain⟨j,j0,hj5,hjk,rfl,rfl,rfl⟩:=hrel;subst eW;go_wp2_with (go_at_call 133;refine zc (Ya.of (Qm _ _)) ?_;intro J n0)
    ·go_roundw;case rel=>exact⟨j+1,by omega,by omega,by omega,by congr 1;omega,rfl,trivial⟩
     case measure=>simp[intOf];omega
    all_goals try (go_region;all_goals go_wp2_with fail)
    all_goals
     refine bodyPost_ret (X3 zbk zbk rfl rfl rfl) rfl ⟨?_,zst⟩;have hj:(if a.k<5 then a.k else 5)=j:=by split<;>omega
     simp[VC,Vg,JL,hj];try (congr 1;omega)
  ·have HE:Hid ((.tuple #[cv (Zb a b n out),cv (Zc a b n out),.int .i64 (Zr a b n)]:Value)=.tuple #[cv zC,cv zC,.int .i64 1]):=hid (by unfold Zb Zc;rw[EO ha hb hn];rfl);rw[HE.o];clear ha hb HE;by_cases h1:n<1
   ·unfold Ya;go_in;go_wp2_with (first|(go_at_call 115;(first|with_reducible refine zc (Ha.o _) ?_|with_reducible refine zc (Hb.o _) ?_);intro J n0))
    exact bodyPost_ret (X3 zbk zbk rfl rfl rfl) rfl ⟨by simp[zC],zst⟩
   ·have h2:3<n:=by omega
    unfold Ya;go_in;go_wp2_with (first|(go_at_call 115;(first|with_reducible refine zc (Ha.o _) ?_|with_reducible refine zc (Hb.o _) ?_);intro J n0))
    exact bodyPost_ret (X3 zbk zbk rfl rfl rfl) rfl ⟨by simp[zC],zst⟩
 ·have HE:Hid ((.tuple #[cv (Zb a b n out),cv (Zc a b n out),.int .i64 (Zr a b n)]:Value)=.tuple #[cv zC,cv zC,.int .i64 120]):=hid (by unfold Zb Zc;rw[EP hm];rfl);rw[HE.o];clear HE;by_cases h1:Ym a
  ·have h2:¬Ym b:=fun h=>hm ⟨h1,h⟩;rw[Ue h1]at Ha;rw[UR h2]at Hb;clear hm h1 h2
   unfold Ya;go_in;go_wp2_with (first|(go_at_call 115;(first|with_reducible refine zc (Ha.o _) ?_|with_reducible refine zc (Hb.o _) ?_);intro J n0))
   exact bodyPost_ret (X3 zbk zbk rfl rfl rfl) rfl ⟨by simp[zC],zst⟩
  ·rw[UR h1]at Ha;clear hm h1
   obtain⟨y,ey⟩:∃y,YZ b=y:=⟨_,rfl⟩;rw[ey]at Hb;clear ey
   unfold Ya;go_in;go_wp2_with (first|(go_at_call 115;(first|with_reducible refine zc (Ha.o _) ?_|with_reducible refine zc (Hb.o _) ?_);intro J n0))
   exact bodyPost_ret (X3 zbk zbk rfl rfl rfl) rfl ⟨by simp[zC],zst⟩
end
end Go.Proofs.YtcgmohldcokccaaGreatDoor
