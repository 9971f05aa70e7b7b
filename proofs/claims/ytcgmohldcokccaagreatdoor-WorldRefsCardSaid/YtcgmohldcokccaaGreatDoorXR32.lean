import Derived.Test.YtcgmohldcokccaaGreatDoorXR26
import Derived.Test.YtcgmohldcokccaaGreatDoorXR29
import Derived.Test.YtcgmohldcokccaaGreatDoorXR31
set_option linter.unusedVariables false
set_option maxHeartbeats 16000000
set_option maxRecDepth 100000
namespace Go.Proofs.YtcgmohldcokccaaGreatDoor
section
open Go.RowKit
open Pu Gp Ap Vp Np Za Ka Ja Ea Ha Hg Hi
theorem CZ(C R:Int)(s:ByteArray)(w:World):∃v,Zg C R s v:=by
 obtain⟨e,w',fr,⟨v,_,hv,_⟩,_⟩:=QG C R s w [];exact⟨v,hv⟩
theorem TB(F:Cf)(v:Int)(hv:Zg F.C F.R F.s v)(x:World):Q13 x F v (stV F.C F.s v) (spV F.C F.s v) where
 chk u _:=(QG F.C F.R F.s u).mono fun e w' ⟨v',he,hv',hs⟩=>by
  rw[VX hv' hv]at he;exact⟨he,hs⟩
 sts u _:=(Cy F.C F.R F.s u).mono fun e w' ⟨a,v',he,hv',ho,hs⟩=>by
  rw[VX hv' hv]at ho;exact⟨a,he,ho,hs⟩
 sps u _:=(Cz F.C F.R F.s u).mono fun e w' ⟨a,v',he,hv',ho,hs⟩=>by
  rw[VX hv' hv]at ho;exact⟨a,he,ho,hs⟩
theorem TC(F:Cf)(hz:F.s.size<=281474976710656)(st sp:List (Int × Int))(x:World)(ht:Tab x)(hd:DTab x):P13 x F ⟨Yg F.C F.R F.s,st,sp,F.q⟩ where
 act m v a b c u hu:=PI m v a b c u (ht.sT hu)
 fire m ow pw no u hu:=Lk m ow pw no u (ht.sT hu)
 gli m u:=P3 m F.C F.R F.s hz u
 bod L ao n cap u h:=CY L ao n cap u h
 apt a b u:=RF a b u
 fly s u:=Ln s F.C F.R F.s hz u
 sho L S ao n cap so r scap u h1 h2:=CN L S ao n cap so r scap u h1 h2
 hur m h u:=Lf m h u
 dmg p u:=Lh p u
 hit a b n out u:=MY a b n out u
 pic L Q T ao n cap po r pcap xo t tcap u h1 h2 h3 h4:=CI L Q T ao n cap po r pcap xo t tcap u h1 h2 h3 h4
 tak m k u:=R7 m k u
 gai s n u:=MT s n u
 spw f s no L ao n cap u hu h1 h2:=RE F.q f s no L ao n cap u (hd.sT hu) h1 h2
 res m x y u:=Lg m x y u
theorem TD(C:Nat)(s:ByteArray):∀n,(spP C s n).length=Zk s n
 | 0=>rfl
 | n+1=>by
  rw[spP,List.length_append,TD C s n,Zk];split<;>simp_all
theorem Hf{C R:Int}{s:ByteArray}{v:Int}(h:Zg C R s v):(spV C s v).length<=16:=by
 unfold spV;split
 ·rename_i e;subst e;have hf:YL C R s=true:=by
   rcases h with⟨_,h2⟩|⟨h1,_⟩|⟨h1,_⟩
   ·cases h2
   ·exact h1
   ·exact h1
  unfold YL at hf;simp only[Bool.and_eq_true,decide_eq_true_eq]at hf;rw[TD];exact hf.2.2
 ·simp
abbrev E0:Env:=⟨Yg 8 6 std3,[(6144,6144),(26624,6144),(6144,18432),(26624,18432)],[(14336,10240),(18432,10240)],7⟩
abbrev y0:Cm:=⟨1,1,1,7,9,0,0⟩
theorem Hh:stV 8 std3 0=[(6144,6144),(26624,6144),(6144,18432),(26624,18432)]:=by kernel_rfl
theorem Hj:spV 8 std3 0=[(14336,10240),(18432,10240)]:=by kernel_rfl
theorem Hk:mm (nwM E0.st 2) 1=⟨26624,6144,0,0,0,0,4,100,50,false,0,0,0⟩:=by kernel_rfl
theorem Hl:(frame E0 (nw0 E0 2) [y0]).ns=[⟨8,1,9⟩]:=by kernel_rfl
theorem Hm:(mm (frame E0 (nw0 E0 2) [y0]).w.ms 1).sd=9:=by kernel_rfl
theorem Hn:(frame E0 (nw0 E0 2) [y0]).w.ms.length=2:=by kernel_rfl
theorem TE:(frame E0 (nw0 E0 2) [y0]).w.fr=1:=by kernel_rfl
theorem Jm:Zm 2 0 4 [0,2]:=by
 refine⟨by decide,by decide,rfl,by decide,by decide,by decide,rfl,fun i h1 h2=>?_⟩;obtain rfl:i=1:=by simp at h2;omega
 exact⟨by decide,by decide⟩
theorem We:Rgt 2 y0:=⟨by decide,by decide,by decide,by kernel_rfl⟩
theorem Ho:Z1 2 1 [y0]:=fun i hi=>by
 obtain rfl:i=0:=by simp at hi;omega
 exact⟨⟨We,rfl⟩,fun h=>absurd h (by omega)⟩
theorem TF:Ha.Good 2 E0 (nw0 E0 2):=DM (by decide)
theorem Hp:Z0 2 E0 (nw0 E0 2):=⟨TF,by decide,by decide⟩
theorem Hq:Z0 2 E0 (frame E0 (nw0 E0 2) [y0]).w:=by
 have h:=Ni (n:=2) (by omega) TF (l:=[y0]) (fun x hx=>by simp at hx;subst hx;exact We);refine⟨h.1,?_⟩;rw[TE];decide
theorem Hr{w:World}{g:Nat}{F:Cf}(h0:Cfb w g F)(p q C R:Int)(s:ByteArray)(lo:Option Addr)(n c:Nat):Cfb ((((((w.setCell ⟨g,0,none⟩ (.int .i64 p)).setCell ⟨g,1,none⟩ (.int .u64 q)).setCell ⟨g,2,none⟩ (.int .i64 C)).setCell ⟨g,3,none⟩ (.int .i64 R)).setCell ⟨g,4,none⟩ (.string s)).setCell ⟨g,5,none⟩ (.slice lo n c)) g ⟨p,q,C,R,s,.slice lo n c⟩:=by
 unfold Cfb at h0⊢;have h1:=heap_setCell_same _ g 0 _ _ (.int .i64 p) h0;have h2:=heap_setCell_same _ g 1 _ _ (.int .u64 q) h1;have h3:=heap_setCell_same _ g 2 _ _ (.int .i64 C) h2;have h4:=heap_setCell_same _ g 3 _ _ (.int .i64 R) h3;have h5:=heap_setCell_same _ g 4 _ _ (.string s) h4;have h6:=heap_setCell_same _ g 5 _ _ (.slice lo n c) h5;exact h6.trans (by kernel_rfl)
theorem Hs{a w:World}{g:Nat}(h:Fr (fun k=>k=g) a w)(v0 v1 v2 v3 v4 v5:Value):Fr (fun k=>k=g) a ((((((w.setCell ⟨g,0,none⟩ v0).setCell ⟨g,1,none⟩ v1).setCell ⟨g,2,none⟩ v2).setCell ⟨g,3,none⟩ v3).setCell ⟨g,4,none⟩ v4).setCell ⟨g,5,none⟩ v5):=
 (((((h.setCell _ _ (.inl rfl)).setCell _ _ (.inl rfl)).setCell _ _ (.inl rfl)).setCell _ _ (.inl rfl)).setCell _ _ (.inl rfl)).setCell _ _ (.inl rfl)
theorem Ht{w:World}{g:Nat}{p q C R:Int}{s:ByteArray}{lo:Option Addr}{n c:Nat}(h:Cfb w g ⟨p,q,C,R,s,.slice lo n c⟩):(loadVar 27 ⟨g,0,none⟩).run Tryz.prog w=.ok (.agg #[.int .i64 p,.int .u64 q,.int .i64 C,.int .i64 R,.string s,.slice lo n c]) w:=by
 obtain⟨c0,c1,c2,c3,c4,c5,cf⟩:=h.cells;dsimp only at c0 c1 c2 c3 c4 c5;clear h;go_simp
theorem Hu{fn:Func}{r:Tmp}{w:World}{g:Nat}{p q C R:Int}{s:ByteArray}{lo:Option Addr}{n c:Nat}(hb:Cfb w g ⟨p,q,C,R,s,.slice lo n c⟩)(h:fn.results=#[.cell r 27])(tmps:Array Value)(hp:tmps.getD r undef=.pointer (some ⟨g,0,none⟩)) :
  (results fn tmps).run Tryz.prog w=.ok (.agg #[.int .i64 p,.int .u64 q,.int .i64 C,.int .i64 R,.string s,.slice lo n c]) w:=by
 have hp':tmps[r]?.getD undef=.pointer (some ⟨g,0,none⟩):=by simpa using hp
 simp[results,h,hp',asAddr,Ht hb]
theorem Hv(w:World):Calls Tryz.prog 21 #[] w fun e w'=>∃gl,e=.returned (.agg #[.int .i64 2,.int .u64 7,.int .i64 8,.int .i64 6,.string std3,.slice (some ⟨gl,0,none⟩) 2 2])/\RdI w' (some ⟨gl,0,none⟩) 2 2 [0,2]/\Yc w w':=by
 have HSd:=hid Ob;obtain⟨S,eS⟩:∃S,std3=S:=⟨_,rfl⟩;rw[eS]at HSd⊢;clear eS;have A0:=sA w (.cells #[.int .i64 0,.int .u64 0,.int .i64 0,.int .i64 0,.string ByteArray.empty,.slice none 0 0] 27);have p0:Cfb _ w.heap.size ⟨0,0,0,0,ByteArray.empty,.slice none 0 0⟩:=Xp w ⟨0,0,0,0,ByteArray.empty,.slice none 0 0⟩;have HS0:=hid A0;have HP0:=hid p0;clear A0 p0;go_enter Tryz.func21,Tryz.ntmps21;go_wp2_with fail;refine(HSd.o _).mono ?_;rintro e w1 ⟨rfl,h1⟩;have A2:=sA w1 (.cells #[.int .i64 8,.int .i64 6,.string S] 24);have A3:=sA (w1.alloc (.cells #[.int .i64 8,.int .i64 6,.string S] 24)) (.cells #[.int .i64 0,.int .i64 2] 3);have a2:=YA w1 8 6 S;have hp:=((HP0.o.sT h1).sT A2).sT A3;have HP3:=hid hp;have HS3:=hid (((HS0.o.trans h1).trans A2).trans A3);have HL3:=hid (D7 (w1.alloc (.cells #[.int .i64 8,.int .i64 6,.string S] 24)) 0 2);have HLT:=hid (show w.heap.size<w1.heap.size from Yz (HP0.o.sT h1));obtain⟨i0,i1,i2,jf⟩:=a2.cells;clear A2 A3 a2 h1;obtain⟨c0,c1,c2,c3,c4,c5,cf⟩:=hp.cells;clear hp;go_wp2_with fail;refine bodyPost_ret (Hu (Hr HP3.o 2 7 8 6 S _ 2 2) rfl _ rfl) rfl ⟨w1.heap.size+1,rfl,?_,Uv HS3.o (Nat.le_refl _) _ _ _ _ _ _⟩;have h:=HL3.o;rw[size_alloc]at h;refine h.kept (Hs (Fr.refl _ _) _ _ _ _ _ _) (fun a ha _ e=>?_);cases ha;have e:w1.heap.size+1=w.heap.size:=e;have:=HLT.o;omega
abbrev nv(x:Nn):Value:=.agg (ncs x)
def Kr(x y:Nn):Bool:=(x.k == y.k) && ((x.a == y.a) && (x.b == y.b))
theorem Hw(x:Nn):Kr x x=true:=by unfold Kr;simp
theorem Jn(x:Nn)(w:World):(part 3 (ncs x) 0).run Tryz.prog w=.ok (.int .i64 x.k) w/\(part 3 (ncs x) 1).run Tryz.prog w=.ok (.int .i64 x.a) w/\(part 3 (ncs x) 2).run Tryz.prog w=.ok (.int .i64 x.b) w:=by
 refine⟨?_,?_,?_⟩<;>go_simp
theorem Hy(x y:Nn)(w:World):(Op.equalIn 10000 47 (nv x) (nv y)).run Tryz.prog w=.ok (Kr x y) w:=by
 have c0:=fun w=>(Jn x w).1;have d0:=fun w=>(Jn y w).1;have r0:=fun w=>ZF 9998 x.k y.k w;have c1:=fun w=>(Jn x w).2.1;have d1:=fun w=>(Jn y w).2.1;have r1:=fun w=>ZF 9998 x.a y.a w;have c2:=fun w=>(Jn x w).2.2;have d2:=fun w=>(Jn y w).2.2;have r2:=fun w=>ZF 9998 x.b y.b w;rw[run_equalIn_struct w 9999 _ _ _ (by kernel_rfl) (by kernel_rfl)];have e : (Tryz.prog.fieldsOf 47) = #[⟨ "Kind", 3, 0, false, "", "", 0⟩, ⟨ "A", 3, 1, false, "", "", 8⟩, ⟨ "B", 3, 2, false, "", "", 16⟩]:=by kernel_rfl
 rw[e];simp only[Op.eqFields,ne_eq,String.reduceEq,not_false_eq_true,if_true,Sem.run_bind,c0,c1,c2,d0,d1,d2,Result.andThen_ok,r0,r1,r2,Sem.run_ite,Sem.run_pure];unfold Kr;exact st (st (st1 _))
theorem Hz(x y:Nn)(w:World):(binOp .eql 47 (nv x) (nv y)).run Tryz.prog w=.ok (.bool (Kr x y)) w:=by
 rw[run_eql_struct,Hy];rfl
theorem H6(x:Nn)(w:World):(binOp .eql 47 (nv x) (nv x)).run Tryz.prog w=.ok (.bool true) w:=by
 rw[Hz,Hw]
theorem H7(op:BinOp)(a b:Operand)(xs ys:Array Value)(w:World):(eqGuard op 47 a b (.agg xs) (.agg ys)).run Tryz.prog w=.ok () w:=run_eqGuard_agg w op _ a b xs ys (by kernel_rfl)
theorem H8:(frame E0 (nw0 E0 2) [y0]).w.cs.length=2:=by kernel_rfl
theorem H9:(frame E0 (nw0 E0 2) [y0]).w.hs.length=0:=by kernel_rfl
theorem Yaa:(frame E0 (nw0 E0 2) [y0]).w.ks.length=0:=by kernel_rfl
theorem Yab:(frame E0 (nw0 E0 2) [y0]).w.nx=1:=by kernel_rfl
theorem owN{e:TypeId}{w:World}{B g n cap:Nat}{L:List Nn}(h:OwG KN e w B (.slice (some ⟨g,0,none⟩) n cap) L){i:Nat}(hi:i<L.length):w.cell? ⟨g,i*3,none⟩=some (.int .i64 (L.getD i zNn).k)/\w.cell? ⟨g,i*3+1,none⟩=some (.int .i64 (L.getD i zNn).a)/\w.cell? ⟨g,i*3+2,none⟩=some (.int .i64 (L.getD i zNn).b)/\∀o,w.frozen? ⟨g,o,none⟩=false:=
 ⟨h.get hi 0 _ rfl,h.get hi 1 _ rfl,h.get hi 2 _ rfl,h.frozen⟩
theorem TG(w:World)(y:Cm):RdG KX (w.alloc (.cells (xcs y) 63)) (some ⟨w.heap.size,0,none⟩) 1 [y]:=by
 refine⟨rfl,by omega,.inr ⟨w.heap.size,0,rfl,fun i hi j u hj=>?_⟩⟩;obtain rfl:i=0:=by omega
 have hb:=heap_alloc_new w (.cells (xcs y) 63);rw[cell_of_row _ _ _ _ _ _ hb];have hj':(xcs y).toList[j]?=some u:=hj;rw[Array.getElem?_toList]at hj';simpa using hj'
theorem Ks(gl:Nat)(u:World):Q13 u ⟨2,7,8,6,std3,.slice (some ⟨gl,0,none⟩) 2 2⟩ 0 E0.st E0.sp:=by
 have h:=TB ⟨2,7,8,6,std3,.slice (some ⟨gl,0,none⟩) 2 2⟩ 0 C5 u;dsimp only at h;rw[Hh,Hj]at h;exact h
theorem TH(gl:Nat)(u:World)(ht:Tab u)(hd:DTab u):P13 u ⟨2,7,8,6,std3,.slice (some ⟨gl,0,none⟩) 2 2⟩ E0:=TC ⟨2,7,8,6,std3,.slice (some ⟨gl,0,none⟩) 2 2⟩ (show std3.size<=281474976710656 by decide +kernel) _ _ u ht hd
theorem Yac(gl:Nat)(u:World)(hl:RdI u (some ⟨gl,0,none⟩) 2 2 [0,2]):Calls Tryz.prog 16 #[.agg #[.int .i64 2,.int .u64 7,.int .i64 8,.int .i64 6,.string std3,.slice (some ⟨gl,0,none⟩) 2 2]] u fun e w'=>∃v,e=.returned (.tuple #[v,.int .i64 0])/\OwW w' u.heap.size v (nw0 E0 2)/\Yc u w':=
 PR 2 7 8 6 std3 (some ⟨gl,0,none⟩) 2 2 E0 [0,2] u 0 (Ks gl u) hl Jm
theorem Yad(gl:Nat)(u:World)(hl:RdI u (some ⟨gl,0,none⟩) 2 2 [0,2]):Ya 22 #[.agg #[.int .i64 2,.int .u64 7,.int .i64 8,.int .i64 6,.string std3,.slice (some ⟨gl,0,none⟩) 2 2]] u (.int .i64 0):=
 PQ 2 7 8 6 std3 (some ⟨gl,0,none⟩) 2 2 E0 [0,2] u 0 (Ks gl u) hl Jm
theorem Yae(gl:Nat)(u:World)(hl:RdI u (some ⟨gl,0,none⟩) 2 2 [0,2])(v:Value)(hv:RdW u v (frame E0 (nw0 E0 2) [y0]).w):Ya 23 #[.agg #[.int .i64 2,.int .u64 7,.int .i64 8,.int .i64 6,.string std3,.slice (some ⟨gl,0,none⟩) 2 2],v] u (.int .i64 0):=by
 have h:=PS 2 7 8 6 std3 (some ⟨gl,0,none⟩) 2 2 E0 [0,2] u 0 (Ks gl u) hl Jm _ v hv;rw[show Xv ((2:Nat):Int) E0 (frame E0 (nw0 E0 2) [y0]).w=0 from JP Hq]at h;exact h
theorem TI{p v0:Int}{E:Env}{l:List Int}{W:Wd}{cs:List Cm}(hc:Zm p v0 E.st.length l)(hF:Z0 p E W)(hm:W.fr≠1099511627776)(hO:Z1 p (W.fr+1) cs):stE p v0 E l W cs=0:=by
 unfold stE;rw[if_neg (not_not_intro hc),if_neg (not_not_intro hF),if_neg hm,if_neg (not_not_intro hO)]
theorem Yaf(gl gx:Nat)(u:World)(ht:Tab u)(hd:DTab u)(hl:RdI u (some ⟨gl,0,none⟩) 2 2 [0,2])(v:Value)(hv:RdW u v (nw0 E0 2))(hx:RdG KX u (some ⟨gx,0,none⟩) 1 [y0]):Calls Tryz.prog 9 #[.agg #[.int .i64 2,.int .u64 7,.int .i64 8,.int .i64 6,.string std3,.slice (some ⟨gl,0,none⟩) 2 2],v,.slice (some ⟨gx,0,none⟩) 1 1] u fun e w'=>FN u w' E0 (nw0 E0 2) [y0] e:=
 (PU 2 7 8 6 std3 (some ⟨gl,0,none⟩) 2 2 E0 [0,2] u 0 (Ks gl u) (TH gl u ht hd) hl Jm (by decide) (nw0 E0 2) v hv (some ⟨gx,0,none⟩) 1 1 [y0] hx (by omega)).mono fun e w' h=>h.1 (TI Jm Hp (by decide) Ho)
attribute [local go_sem] zr Y0
structure Ws where
 fr:Int
 nx:Int
 a:Option Addr
 l1:Nat
 ca:Nat
 b:Option Addr
 l2:Nat
 cb:Nat
 c:Option Addr
 l3:Nat
 cc:Nat
 d:Option Addr
 l4:Nat
 cd:Nat
abbrev Ws.cs(X:Ws):Array Value:=Yf X.fr X.nx (.slice X.a X.l1 X.ca) (.slice X.b X.l2 X.cb) (.slice X.c X.l3 X.cc) (.slice X.d X.l4 X.cd)
structure On4 (w:World) (B:Nat) (W:Wd) (X:Ws):Prop where
 fr:W.fr=X.fr
 nx:W.nx=X.nx
 o1:OwG KM 59 w B (.slice X.a X.l1 X.ca) W.ms
 o2:OwG KC 67 w B (.slice X.b X.l2 X.cb) W.cs
 o3:OwG KS 69 w B (.slice X.c X.l3 X.cc) W.hs
 o4:OwG KQ 71 w B (.slice X.d X.l4 X.cd) W.ks
variable {w w' a b c d:World} {B B' y z:Nat} {W:Wd} {X:Ws}
theorem On4.sT(h:On4 w B W X)(hs:Yc w w'):On4 w' B W X:=⟨h.1,h.2,h.3.sT hs,h.4.sT hs,h.5.sT hs,h.6.sT hs⟩
theorem On4.less(h:On4 w B W X)(hb:B' <= B):On4 w B' W X:=⟨h.1,h.2,h.3.less hb,h.4.less hb,h.5.less hb,h.6.less hb⟩
def FZ(F:Nat->Prop)(a b:World):Prop:=Fr F a b/\a.heap.size=b.heap.size
variable {F:Nat->Prop}
theorem FZ.refl(a:World):FZ F a a:=⟨Fr.refl _ _,rfl⟩
theorem FZ.fr(h:FZ F a b):Fr F a b:=h.1
theorem FZ.at(h:FZ F a b)(hz:F a.heap.size)(o p:Obj):FZ F (a.alloc o) (b.alloc p):=by
 obtain⟨⟨h1,h2,h3,h4,h5⟩,h6⟩:=h;refine⟨⟨h1,h2,h3,by simp;omega,fun k hk hn=>?_⟩,by simp[h6]⟩;have hlt:k<a.heap.size:=by
  have:k<a.heap.size+1:=by simpa using hk
  have:k≠a.heap.size:=fun e=>hn (e ▸ hz);omega
 rw[Xh b p k (by omega),Xh a o k hlt];exact h5 k hlt hn
theorem FZ.alloc(h:FZ F a b)(o:Obj):FZ F (a.alloc o) (b.alloc o):=by
 obtain⟨⟨h1,h2,h3,h4,h5⟩,h6⟩:=h;refine⟨⟨h1,h2,h3,by simp;omega,fun k hk hn=>?_⟩,by simp[h6]⟩;by_cases hlt:k<a.heap.size
 ·rw[Xh b o k (by omega),Xh a o k hlt];exact h5 k hlt hn
 ·have:k<a.heap.size+1:=by simpa using hk
  rw[XU b o k (by omega),XU a o k (by omega)]
theorem FZ.more(h:FZ F a b)(J:Array Obj)(n:Nat):FZ F (more a J n) (more b J n):=by
 obtain⟨⟨h1,h2,h3,h4,h5⟩,h6⟩:=h;refine⟨⟨h1,h2,h3,by rw[X0,X0];omega,fun k hk hn=>?_⟩,by rw[X0,X0,h6]⟩;by_cases hlt:k<a.heap.size
 ·rw[VR k (by omega),VR k hlt];exact h5 k hlt hn
 ·unfold Go.Proofs.YtcgmohldcokccaaGreatDoor.more;show(b.heap ++ J)[k]?=(a.heap ++ J)[k]?;rw[Array.getElem?_append_right (by omega),Array.getElem?_append_right (by omega),h6]
theorem zgo{p:Prop}(h:p:=by
  (repeat(first|with_reducible refine FZ.fr (FZ.more ?_ _ _)|with_reducible refine Gn ?_ _ _|with_reducible refine Fr.drew ?_|with_reducible refine Fr.alloc ?_ _))
  (repeat(first|with_reducible exact FZ.refl _|with_reducible refine FZ.more ?_ _ _|with_reducible refine FZ.alloc ?_ _|(with_reducible refine FZ.at ?_ ?_ _ _;rotate_left;(first|exact Or.inl zsz|exact Or.inr zsz|exact zsz))))):p:=h
theorem zlo{p:Prop}(h:p:=by(intro k hk;simp only[World.size_alloc,World.size_drew,zr]at hk⊢;omega)):p:=h
theorem On4.go(h:On4 a B W X)(hs:Fr F a d)(hF:∀k,F k->k<B)(hB:B' <= B):On4 d B' W X:=⟨h.1,h.2,(h.3.keepB hs hF).less hB,(h.4.keepB hs hF).less hB,(h.5.keepB hs hF).less hB,(h.6.keepB hs hF).less hB⟩
abbrev Kt(W:Wd):Prop:=W.ms.length<=281474976710656/\W.cs.length<=281474976710656/\W.hs.length<=281474976710656/\W.ks.length<=281474976710656
theorem On4.rd(h:On4 w B W X)(hl:Kt W):RdW w (.agg X.cs) W:=by
 obtain⟨h0,h5,h1,h2,h3,h4⟩:=h;unfold Ws.cs;rw[<- h0,<- h5];exact OwW.rd ⟨_,_,_,_,rfl,h1,h2,h3,h4⟩ hl.1 hl.2.1 hl.2.2.1 hl.2.2.2
theorem QO{u:Value}(h:OwW w B u W):∃X:Ws,u=.agg X.cs/\On4 w B W X:=by
 obtain⟨a,b,c,d,rfl,q1,q2,q3,q4⟩:=h;obtain⟨za,ca,rfl,_⟩:=q1.slice;obtain⟨zb,cb,rfl,_⟩:=q2.slice;obtain⟨zc,cc,rfl,_⟩:=q3.slice;obtain⟨zd,cd,rfl,_⟩:=q4.slice;exact⟨⟨_,_,za,_,ca,zb,_,cb,zc,_,cc,zd,_,cd⟩,rfl,rfl,rfl,q1,q2,q3,q4⟩
def oWd:Wd:=⟨0,[],[],[],[],0⟩
theorem TJ(w:World)(B:Nat):On4 w B oWd ⟨0,0,none,0,0,none,0,0,none,0,0,none,0,0⟩:=⟨rfl,rfl,OwG.nil w B,OwG.nil w B,OwG.nil w B,OwG.nil w B⟩
def NwS(u w':World)(W:Wd)(se:Int)(e:Ending):Prop:=∃X:Ws,e=.returned (.tuple #[.agg X.cs,.int .i64 se])/\On4 w' u.heap.size W X/\Yc u w'
def StS(u w':World)(W:Wd)(ns:List Nn)(se:Int)(e:Ending):Prop:=∃(X:Ws) (zo:Option Addr) (zc:Nat),e=.returned (.tuple #[.agg X.cs,.slice zo ns.length zc,.int .i64 se])/\On4 w' u.heap.size W X/\OwG KN 47 w' u.heap.size (.slice zo ns.length zc) ns/\Yc u w'
theorem Yag{u w':World}{E:Env}{W:Wd}{cs:List Cm}{se:Int}{e:Ending}(h:StQ u w' E W cs se e):StS u w' (if se=0 then(frame E W cs).w else oWd) (if se=0 then(frame E W cs).ns else []) se e:=by
 by_cases h0:se=0
 ·obtain⟨⟨x,nv,he,hx,hn⟩,hs⟩:=h.1 h0;obtain⟨X,rfl,ho⟩:=QO hx;obtain⟨zn,cn,rfl,_⟩:=hn.slice;rw[if_pos h0,if_pos h0];exact⟨X,zn,cn,by rw[he,h0],ho,hn,hs⟩
 ·obtain⟨he,hs⟩:=h.2 h0;rw[if_neg h0,if_neg h0];exact⟨_,none,0,he,TJ _ _,OwG.nil _ _,hs⟩
attribute [local go_sem] zr Y0
def Xg(s0 fI:Int)(bad:Bool):Int:=if s0=0 then(if fI<0\/4096<fI then 1 else if bad=true then 132 else 0)else s0
theorem VK{u w':World}{e:Ending}{k:Int}(h:e=.returned (.tuple #[.agg (Yf 0 0 (.slice none 0 0) (.slice none 0 0) (.slice none 0 0) (.slice none 0 0)),.int .i64 k])/\Yc u w'):NwS u w' oWd k e:=⟨⟨0,0,none,0,0,none,0,0,none,0,0,none,0,0⟩,h.1,TJ _ _,h.2⟩
theorem Yah{w:World}{J:Array Obj}{n m:Nat}:Yc (more w J n) (more w J m):=⟨rfl,rfl,rfl,Nat.le_refl _,fun _ _ _=>rfl⟩
theorem zsd{p:Prop}(h:p:=by(repeat(first|with_reducible exact Fr.refl _ _|with_reducible exact Yah|with_reducible refine Gn ?_ _ _|with_reducible refine Fr.drew ?_|with_reducible refine Fr.alloc ?_ _))):p:=h
theorem TK(p q C R:Int)(s:ByteArray)(lo:Option Addr)(ln lc:Nat)(fI:Int)(xo:Option Addr)(n xcp:Nat)(L:List Cm)(g47:56*n<=140737488351232)(w:World)(hx:RdG KX w xo n L)(s0:Int)(bad:Bool)(G:Nat->Wd)(Y:Nat->List Nn)(X:Wd)(E:Int)
  (hE:E=Xg s0 fI bad) (hX:X=if E=0 then G fI.toNat else oWd) (hG:s0=0->bad=false->∀k,Kt (G k))
  (hN:∀u,Yc w u->Calls Tryz.prog 17 #[.agg #[.int .i64 p,.int .u64 q,.int .i64 C,.int .i64 R,.string s,.slice lo ln lc]] u fun e w'=>NwS u w' (if s0=0 then G 0 else oWd) s0 e)
  (hR:∀u,Yc w u->Ya 47 #[.agg #[.int .i64 p,.int .u64 q,.int .i64 C,.int .i64 R,.string s,.slice lo ln lc],.slice xo n xcp] u (.bool bad))
  (hS:s0=0->bad=false->∀(k:Nat) v u yo m yc,(k:Int)<4096->Yc w u->RdW u v (G k)->RdG KX u yo m (ofC L ((k:Int)+1))->m<=n->Calls Tryz.prog 10 #[.agg #[.int .i64 p,.int .u64 q,.int .i64 C,.int .i64 R,.string s,.slice lo ln lc],v,.slice yo m yc] u fun e w'=>StS u w' (G (k+1)) (Y k) 0 e) :
  Calls Tryz.prog 20 #[.agg #[.int .i64 p,.int .u64 q,.int .i64 C,.int .i64 R,.string s,.slice lo ln lc],.int .i64 fI,.slice xo n xcp] w fun e w'=>NwS w w' X E e:=by
 have HE:=hid (And.intro hE hX);have HG:=hid hG;have HN:=hid hN;have HR:=hid hR;have HS:=hid hS;have HX:=hid hx;clear hE hX hG hN hR hS hx;go_in;go_wp2_with fail
 refine(HN.o _ zst).mono ?_;rintro e w1 ⟨⟨f1,x1,a1,l1,ca1,b1,m1,cb1,c1,k1,cc1,d1,j1,cd1⟩,rfl,O1,h1⟩;obtain⟨J1,n1,rfl⟩:=h1.more;have O1:=hid O1;clear h1;by_cases hs0:s0=0;rotate_left
 ·obtain rfl:E=s0:=by rw[HE.o.1,Xg,if_neg hs0]
  obtain rfl:X=oWd:=by rw[HE.o.2,if_neg hs0]
  clear HE;go_wp2_with fail;exact bodyPost_ret (YF zbk rfl rfl) rfl (VK ⟨rfl,zst⟩)
 subst hs0;by_cases hlo:fI<0
 ·obtain rfl:E=1:=by rw[HE.o.1,Xg,if_pos rfl,if_pos (.inl hlo)]
  obtain rfl:X=oWd:=by rw[HE.o.2,if_neg (by decide)]
  clear HE;go_wp2_with fail;exact bodyPost_ret (YF zbk rfl rfl) rfl (VK ⟨rfl,zst⟩)
 by_cases hhi:fI > 4096
 ·obtain rfl:E=1:=by rw[HE.o.1,Xg,if_pos rfl,if_pos (.inr hhi)]
  obtain rfl:X=oWd:=by rw[HE.o.2,if_neg (by decide)]
  clear HE;go_wp2_with fail;exact bodyPost_ret (YF zbk rfl rfl) rfl (VK ⟨rfl,zst⟩)
 go_wp2_with fail;refine zc (HR.o _ zst) ?_;intro J2 n2
 cases bad with
 | true =>
  obtain rfl:E=132:=by rw[HE.o.1,Xg,if_pos rfl,if_neg (by omega),if_pos rfl]
  obtain rfl:X=oWd:=by rw[HE.o.2,if_neg (by decide)]
  clear HE;go_wp2_with fail;exact bodyPost_ret (YF zbk rfl rfl) rfl (VK ⟨rfl,zst⟩)
 | false =>
  obtain⟨F,rfl⟩:∃F:Nat,fI=(F:Int):=⟨fI.toNat,by omega⟩;obtain rfl:E=0:=by rw[HE.o.1,Xg,if_pos rfl,if_neg (by omega)];rfl
  obtain rfl:X=G F:=by rw[HE.o.2,if_pos rfl];rfl
  have HS1:=hid (HS.o (by simp) (by simp));have HG1:=hid (HG.o (by simp) (by simp));have hF4:F<=4096:=by omega
  clear HE HS HG HN HR;try rw[if_pos rfl]at O1
  go_wp2_with fail;go_loopw [11] (fun u wr=>∃(k:Nat) (X1:Ws),k<=F/\u=.int .i64 ((k:Int)+1)/\On4 wr (w.heap.size+1+1) (G k) X1/\Yc (more ((more ((w.alloc (.cells #[.int .i64 p,.int .u64 q,.int .i64 C,.int .i64 R,.string s,.slice lo ln lc] 27)).alloc (.cells (Yf 0 0 (.slice none 0 0) (.slice none 0 0) (.slice none 0 0) (.slice none 0 0)) 33)) J1 n1).alloc (.cells X1.cs 33)) J2 n2) wr) (fun u _=>F+1-(intOf u).toNat);case atStart=>exact⟨0,_,by omega,rfl,(O1.o.sT zst).less zsz,Fr.refl _ _⟩
  case round =>
   clear O1;obtain⟨k,⟨f1,x1,a1,l1,ca1,b1,m1,cb1,c1,k1,cc1,d1,j1,cd1⟩,hk,rfl,o1,hs⟩:=hrel;have HO:=hid o1;have HL:=hid (HG1.o k);obtain⟨K,k',rfl⟩:=hs.more;clear hs o1;by_cases hkf:k<F
   ·have hle:(k:Int)+1<=(F:Int):=by omega
    have hcl:(ofC L ((k:Int)+1)).length<=n:=by
     rw[(Qf L _).length_eq,<- HX.o.1];exact List.length_filter_le _ _
    go_upto_region 12 with fail;go_region_with (first
     | (go_at_call 18;refine(Ri L ((k:Int)+1) xo n xcp (by omega) _ (HX.o.sT zst)).mono ?_;rintro e w5 ⟨v5,rfl,ox,h5⟩;obtain⟨xo5,xc5,rfl,_⟩:=ox.slice;obtain⟨K5,k5,rfl⟩:=h5.more;have HX5:=hid (Zn ox (by omega));clear h5 ox)
     | (go_at_call 10;refine(HS1.o k _ _ xo5 _ xc5 (by omega) ?_ ?_ ?_ hcl).mono ?_;exact zst;exact(HO.o.rd HL.o).sT zsd;exact HX5.o.sT zsd;rintro e w6 ⟨⟨f3,x3,a3,l3,ca3,b3,m3,cb3,c3,k3,cc3,d3,j3,cd3⟩,zo,zc0,rfl,o3,-,h6⟩;obtain⟨K6,k6,rfl⟩:=h6.more;have O3:=hid o3;clear h6 o3))
    all_goals (
     go_wp2_with fail;go_roundw;case rel =>
      refine⟨k+1,⟨f3,x3,a3,l3,ca3,b3,m3,cb3,c3,k3,cc3,d3,j3,cd3⟩,by omega,by go_num,?_,zst⟩;exact On4.go (F:=fun k=>k=w.heap.size+1+1+J1.size) O3.o zgo zlo zsz
     case measure=>first|(simp[intOf];done)|(simp[intOf];omega))
   ·have hge:¬(k:Int)+1<=(F:Int):=by omega
    obtain rfl:k=F:=by omega
    go_wp2_with fail;exact bodyPost_ret (YF zbk rfl rfl) rfl ⟨_,rfl,On4.go (F:=fun k=>k=w.heap.size+1) HO.o zgo (fun k hk=>by omega) zsz,zst⟩
end
section
open Go.RowKit
open Pu Gp Ap Vp Np Za Ka Ja Ea Ha
attribute [local go_sem] zr Y0
def m7:Mv:=⟨0,0,0,0,0,0,0,0,0,false,0,-7,0⟩
def c7:Scr:=⟨0,-7,0,0⟩
def s7:Sh:=⟨-7,0,0,0,0,0,0,0⟩
def p7:Pk:=⟨-7,0,0⟩
theorem Yai{α:Type}{K:Kd α}{e:TypeId}{w:World}{B n cap g:Nat}{L:List α}(h:OwG K e w B (.slice (some ⟨g,0,none⟩) (n+1) cap) L):n<=cap:=by
 rcases h.2 with⟨hv,_⟩|⟨g',cap',cur,hv,hb,hg,hn,hm,hs,ht⟩
 ·cases hv
 ·injection hv with _ h1 h2;omega
end
section
open Go.RowKit
open Pu Gp Ap Vp Np Za Ka Ja Ea Ha Hg Hi
attribute [local go_sem] zr Y0
def x7:Cm:=⟨0,0,-7,0,0,0,0⟩
theorem Yaj(L:List Cm)(xo:Option Addr)(n xc:Nat)(w:World)(hx:RdG KX w xo n L)(hb:(n+1)*56<=140737488355328) :
    Calls Tryz.prog 8 #[.slice xo n xc] w fun e w'=>∃g c,e=.returned (.slice (some ⟨g,0,none⟩) n c)/\OwG KX 63 w' w.heap.size (.slice (some ⟨g,0,none⟩) (n+1) c) (L ++ [x7])/\Yc w w':=by
  have HX:=hid hx;have HL:=hid hx.1;clear hx;go_in
  go_wp2_with (first
    | (at_builtin
       refine Km KX _ rfl _ _ 34 rfl Tryz.underlying34 56 UV _ _ _ L rfl rfl HX.o (by omega) ?_;intro v' u0 ho h1;obtain⟨ao0,cp0,rfl,_⟩:=ho.slice;have HO:=hid ho;have HS:=hid h1;have HY:Hid ((u0.alloc (.cells (xcs x7) 63)).heap[u0.heap.size]?=some (.cells (xcs x7) 63 (0,0))):=hid (heap_alloc_new u0 _);clear ho h1)
    | (at_builtin
       refine ZA KX _ rfl _ _ 34 rfl Tryz.underlying34 56 UV w.heap.size u0.heap.size _ L x7 rfl rfl (HO.o.sT (sA u0 _)) HY.o (by have:=HL.o;omega) (by have:=HL.o;omega) (by have:=HS.o.size;simp;omega) ?_;intro v' v0 ho hf;have hT:=(HO.o.sT (sA u0 _)).frT (ts:=[63]) hf (Nat.le_refl _) (by simp);obtain⟨g0,c0,rfl,_,_⟩:=ho.head (by simp);rw[show(L ++ [x7]).length=n+1 by have:=HL.o;simp;omega]at ho⊢;have HQ:=hid ho;have HC0:Hid (n<=c0):=hid (Yai ho);have HS2:=hid (hT.old (HS.o.trans (sA u0 _)) (Nat.le_refl _));clear ho hf hT))
  go_ret;exact⟨g0,c0,rfl,HQ.o,HS2.o⟩
abbrev odv(x:Cm):Value:=.agg #[.int .i64 x.v,.int .i64 x.a,.int .i64 x.b,.int .i64 x.c]
theorem Yak(x:Cm)(w:World):(Op.equalIn 9999 61 (odv x) (odv x)).run Tryz.prog w=.ok true w:=by
 rw[run_equalIn_struct w 9998 _ _ _ (by kernel_rfl) (by kernel_rfl)];have e : (Tryz.prog.fieldsOf 61) = #[⟨ "Verb", 3, 0, false, "", "", 0⟩, ⟨ "A", 3, 1, false, "", "", 8⟩, ⟨ "B", 3, 2, false, "", "", 16⟩, ⟨ "C", 3, 3, false, "", "", 24⟩]:=by kernel_rfl
 rw[e];go_simp
theorem Yal(x:Cm)(w:World):(Op.equalIn 10000 63 (xv x) (xv x)).run Tryz.prog w=.ok true w:=by
 have q:=Yak x;rw[run_equalIn_struct w 9999 _ _ _ (by kernel_rfl) (by kernel_rfl)];have e : (Tryz.prog.fieldsOf 63) = #[⟨ "Frame", 2, 0, false, "", "", 0⟩, ⟨ "Peer", 3, 1, false, "", "", 8⟩, ⟨ "Seq", 3, 2, false, "", "", 16⟩, ⟨ "Order", 61, 3, false, "", "", 24⟩]:=by kernel_rfl
 rw[e];go_simp
theorem Yam(x:Cm)(w:World):(binOp .neq 63 (xv x) (xv x)).run Tryz.prog w=.ok (.bool false) w:=by
 rw[run_neq_struct,Yal];rfl
theorem Yan(op:BinOp)(a b:Operand)(xs ys:Array Value)(w:World):(eqGuard op 63 a b (.agg xs) (.agg ys)).run Tryz.prog w=.ok () w:=run_eqGuard_agg w op _ a b xs ys (by kernel_rfl)
theorem Yao(L:List Cm)(B g n c:Nat)(xo:Option Addr)(xc:Nat)(w:World)(hl:OwG KX 63 w B (.slice (some ⟨g,0,none⟩) (n+1) c) (L ++ [x7]))(hx:RdG KX w xo n L):Ya 14 #[.slice (some ⟨g,0,none⟩) n c,.slice xo n xc] w (.bool true):=by
 have HL:=hid hl;have HX:=hid hx;have hc:n+1<=c:=(Kj hl).1 ▸ (Kj hl).2;have hm:=hx.2.1;have hn:=hx.1;have G:=Yan;clear hl hx;unfold Ya;go_in;go_wp2_with fail
 go_loopw [5] (fun u wr=>∃i:Nat,i<=n/\u=.int .i64 (i:Int)/\Yc w wr) (fun u _=>n-(intOf u).toNat);case atStart=>exact⟨0,by omega,rfl,Fr.refl _ _⟩
 case round =>
  obtain⟨i,hi,rfl,hs⟩:=hrel;have HS:=hid hs;by_cases hlt:i<n
  ·have hlt':(i:Int)<(n:Int):=by omega
   have r0:=HL.o.sT hs;have r1:=HX.o.sT hs;obtain⟨D,d,rfl⟩:=r1.at (by omega);have z0:=r0.get (i:=i) (by simp;omega);have z1:=r1.get hlt;rw[show(L ++ [x7]).getD i KX.d=L.getD i KX.d by simp[List.getD,List.getElem?_append_left (show i<L.length by omega)]]at z0;obtain⟨x,ex⟩:∃x,L.getD i KX.d=x:=⟨_,rfl⟩;rw[ex]at z0 z1;have E1:=Yam x;obtain⟨y0,y1,y2,y3,y4,y5,y6⟩:(∀z:Aft wr,z.u.cell? ⟨g,i*7,none⟩=some (.int .i64 x.fr))/\(∀z:Aft wr,z.u.cell? ⟨g,i*7+1,none⟩=some (.int .i64 x.pe))/\(∀z:Aft wr,z.u.cell? ⟨g,i*7+2,none⟩=some (.int .i64 x.sq))/\(∀z:Aft wr,z.u.cell? ⟨g,i*7+3,none⟩=some (.int .i64 x.v))/\(∀z:Aft wr,z.u.cell? ⟨g,i*7+4,none⟩=some (.int .i64 x.a))/\(∀z:Aft wr,z.u.cell? ⟨g,i*7+5,none⟩=some (.int .i64 x.b))/\(∀z:Aft wr,z.u.cell? ⟨g,i*7+6,none⟩=some (.int .i64 x.c)):=⟨kC (z0 0 _ rfl),kC (z0 1 _ rfl),kC (z0 2 _ rfl),kC (z0 3 _ rfl),kC (z0 4 _ rfl),kC (z0 5 _ rfl),kC (z0 6 _ rfl)⟩;obtain⟨x0,x1,x2,x3,x4,x5,x6⟩:(∀z:Aft wr,z.u.cell? ⟨D,d+i*7,none⟩=some (.int .i64 x.fr))/\(∀z:Aft wr,z.u.cell? ⟨D,d+i*7+1,none⟩=some (.int .i64 x.pe))/\(∀z:Aft wr,z.u.cell? ⟨D,d+i*7+2,none⟩=some (.int .i64 x.sq))/\(∀z:Aft wr,z.u.cell? ⟨D,d+i*7+3,none⟩=some (.int .i64 x.v))/\(∀z:Aft wr,z.u.cell? ⟨D,d+i*7+4,none⟩=some (.int .i64 x.a))/\(∀z:Aft wr,z.u.cell? ⟨D,d+i*7+5,none⟩=some (.int .i64 x.b))/\(∀z:Aft wr,z.u.cell? ⟨D,d+i*7+6,none⟩=some (.int .i64 x.c)):=⟨kC (z1 0 _ rfl),kC (z1 1 _ rfl),kC (z1 2 _ rfl),kC (z1 3 _ rfl),kC (z1 4 _ rfl),kC (z1 5 _ rfl),kC (z1 6 _ rfl)⟩;have hne:=Aft.here wr;clear z0 z1 r0 r1 hs ex;go_wp2_with fail;refine Yk (by kernel_rfl) (by kernel_rfl) ?_;repeat(go_big_quiet_step (fail))
   refine wpQuiet_nil ?_;intro w2 h2;have HS2:=hid (HS.o.trans h2);clear h2 hne E1 y0 x0 y1 x1 y2 x2 y3 x3 y4 x4 y5 x5 y6 x6;go_wp2_with fail;go_roundw;case rel=>exact⟨i+1,by omega,by go_num,HS2.o⟩
   case measure=>simp[intOf];omega
  ·have hge:¬(i:Int)<(n:Int):=by omega
   have z0:=(HL.o.sT hs).get (i:=n) (by simp;omega);rw[show(L ++ [x7]).getD n KX.d=x7 by simp[List.getD,<- hn]]at z0;have y2:wr.cell? ⟨g,n*7+2,none⟩=some (.int .i64 (-7)):=z0 2 _ rfl;clear z0 hs;go_wp2_with fail;go_ret;exact⟨rfl,HS.o⟩
theorem Yap{w:World}{B g n c:Nat}{L:List Cm}(h:OwG KX 63 w B (.slice (some ⟨g,0,none⟩) (n+1) c) (L ++ [x7]))(hl:L.length=n)(hm:n<=281474976710656):RdG KX w (some ⟨g,0,none⟩) n L:=by
 subst hl;exact h.rd hm
attribute [local go_sem] zr Y0
theorem TL(p q C R:Int)(s:ByteArray)(lo:Option Addr)(ln lc:Nat)(a:Int)(xo:Option Addr)(n xcp:Nat)(L:List Cm)(hc:(n+1)*56<=140737488355328)(w:World)(hx:RdG KX w xo n L)(E:Int)(X:Wd)(hX:Kt X)
  (hA:∀u,Yc w u->Ya 6 #[] u (.bool true))
  (hP:∀u yo yc,Yc w u->RdG KX u yo n L->(yo=none->yc=0)->Calls Tryz.prog 19 #[.agg #[.int .i64 p,.int .u64 q,.int .i64 C,.int .i64 R,.string s,.slice lo ln lc],.int .i64 a,.slice yo n yc] u fun e w'=>NwS u w' X E e)
  (hD:∀u,Yc w u->Calls Tryz.prog 20 #[.agg #[.int .i64 p,.int .u64 q,.int .i64 C,.int .i64 R,.string s,.slice lo ln lc],.int .i64 a,.slice xo n xcp] u fun e w'=>NwS u w' X E e) :
  Ya 5 #[.agg #[.int .i64 p,.int .u64 q,.int .i64 C,.int .i64 R,.string s,.slice lo ln lc],.int .i64 a,.slice xo n xcp] w (.bool true):=by
 have HA:=hid hA;have HP:=hid hP;have HD:=hid hD;have HX:=hid hx;have HXl:=hid hX;have HL:=hid hx.1;clear hA hP hD hx hX;unfold Ya;go_in;go_wp2_with fail
 refine zc (HA.o _ zst) ?_;intro J0 n0
 go_wp2_with fail;refine(Yaj L xo n xcp _ (HX.o.sT zst) hc).mono ?_;rintro e w1 ⟨g4,c4,rfl,o4,h1⟩;obtain⟨J2,n2,rfl⟩:=h1.more;have HO4:=hid o4;clear o4 h1;go_wp2_with fail;refine(HP.o _ _ _ zst (Yap (HO4.o.sT zst) HL.o (by omega)) (fun h=>by cases h)).mono ?_;rintro e w6 ⟨⟨f3,x3,a3,l3,ca3,b3,m3,cb3,c3',k3',cc3,d3,j3,cd3⟩,rfl,o3,h6⟩;obtain⟨J3,n3,rfl⟩:=h6.more;have O3:=hid o3;clear h6 o3;go_wp2_with fail;refine(HD.o _ zst).mono ?_;rintro e w6 ⟨⟨f4,x4,a4,l4,ca4,b4,m4,cb4,c4',k4',cc4,d4,j4,cd4⟩,rfl,o4,h6⟩;obtain⟨J4,n4,rfl⟩:=h6.more;have O4:=hid o4;clear h6 o4;go_wp2_with fail;refine zc (Nr X _ _ _ ((O3.o.rd HXl.o).sT zst) ((O4.o.rd HXl.o).sT zst)) ?_;intro J5 n5
 go_wp2_with fail;refine zc (Yao L _ g4 n c4 xo xcp _ (HO4.o.sT zst) (HX.o.sT zst)) ?_;intro J8 n8
 go_wp2_with fail;go_ret;exact⟨rfl,zst⟩
attribute [local go_sem] zr Y0
end
end Go.Proofs.YtcgmohldcokccaaGreatDoor
