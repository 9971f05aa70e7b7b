import Derived.Test.YtcgmohldcokccaaGreatDoorXW26
import Derived.Test.YtcgmohldcokccaaGreatDoorXW29
import Derived.Test.YtcgmohldcokccaaGreatDoorXW31
set_option linter.unusedVariables false
set_option maxHeartbeats 16000000
namespace Go.Proofs.YtcgmohldcokccaaGreatDoor
open Go.RowKit
open Pu Gp Ap Vp Np Za Ka Ja Ea Ha Hg Hi
set_option maxRecDepth 100000
theorem CP(C R:Int)(s:ByteArray)(w:World):∃v,Zf C R s v:=by
 obtain⟨e,w',fr,⟨v,_,hv,_⟩,_⟩:=Q6 C R s w [];exact⟨v,hv⟩
theorem Tq(F:Cf)(v:Int)(hv:Zf F.C F.R F.s v)(x:World):Q13 x F v (stV F.C F.s v) (spV F.C F.s v) where
 chk u _:=(Q6 F.C F.R F.s u).mono fun e w' ⟨v',he,hv',hs⟩=>by
  rw[VU hv' hv]at he;exact⟨he,hs⟩
 sts u _:=(Cq F.C F.R F.s u).mono fun e w' ⟨a,v',he,hv',ho,hs⟩=>by
  rw[VU hv' hv]at ho;exact⟨a,he,ho,hs⟩
 sps u _:=(Cr F.C F.R F.s u).mono fun e w' ⟨a,v',he,hv',ho,hs⟩=>by
  rw[VU hv' hv]at ho;exact⟨a,he,ho,hs⟩
theorem Tr(F:Cf)(hz:F.s.size<=281474976710656)(st sp:List (Int × Int))(x:World)(ht:Tab x)(hd:DTab x):P13 x F ⟨Yg F.C F.R F.s,st,sp,F.q⟩ where
 act m v a b c u hu:=PA m v a b c u (ht.sT hu)
 fire m ow pw no u hu:=OR m ow pw no u (ht.sT hu)
 gli m u:=Ps m F.C F.R F.s hz u
 bod L ao n cap u h:=CO L ao n cap u h
 apt a b u:=Rz a b u
 fly s u:=OU s F.C F.R F.s hz u
 sho L S ao n cap so r scap u h1 h2:=CF L S ao n cap so r scap u h1 h2
 hur m h u:=ON m h u
 dmg p u:=OP p u
 hit a b n out u:=MH a b n out u
 pic L Q T ao n cap po r pcap xo t tcap u h1 h2 h3 h4:=CA L Q T ao n cap po r pcap xo t tcap u h1 h2 h3 h4
 tak m k u:=Rr m k u
 gai s n u:=MC s n u
 spw f s no L ao n cap u hu h1 h2:=Ry F.q f s no L ao n cap u (hd.sT hu) h1 h2
 res m x y u:=OO m x y u
theorem Tt(C:Nat)(s:ByteArray):∀n,(spP C s n).length=Zj s n
 | 0=>rfl
 | n+1=>by
  rw[spP,List.length_append,Tt C s n,Zj];split<;>simp_all
theorem CQ{C R:Int}{s:ByteArray}{v:Int}(h:Zf C R s v):(spV C s v).length<=16:=by
 unfold spV;split
 ·rename_i e;subst e;have hf:YJ C R s=true:=by
   rcases h with⟨_,h2⟩|⟨h1,_⟩|⟨h1,_⟩
   ·cases h2
   ·exact h1
   ·exact h1
  unfold YJ at hf;simp only[Bool.and_eq_true,decide_eq_true_eq]at hf;rw[Tt];exact hf.2.2
 ·simp
abbrev E0:Env:=⟨Yg 8 6 std3,[(6144,6144),(26624,6144),(6144,18432),(26624,18432)],[(14336,10240),(18432,10240)],7⟩
abbrev y0:Cm:=⟨1,1,1,7,9,0,0⟩
theorem CR:stV 8 std3 0=[(6144,6144),(26624,6144),(6144,18432),(26624,18432)]:=by kernel_rfl
theorem CT:spV 8 std3 0=[(14336,10240),(18432,10240)]:=by kernel_rfl
theorem CU:mm (nwM E0.st 2) 1=⟨26624,6144,0,0,0,0,4,100,50,false,0,0,0⟩:=by kernel_rfl
theorem CW:(frame E0 (nw0 E0 2) [y0]).ns=[⟨8,1,9⟩]:=by kernel_rfl
theorem CX:(mm (frame E0 (nw0 E0 2) [y0]).w.ms 1).sd=9:=by kernel_rfl
theorem CY:(frame E0 (nw0 E0 2) [y0]).w.ms.length=2:=by kernel_rfl
theorem Tu:(frame E0 (nw0 E0 2) [y0]).w.fr=1:=by kernel_rfl
theorem Jg:Zt 2 0 4 [0,2]:=by
 refine⟨by decide,by decide,rfl,by decide,by decide,by decide,rfl,fun i h1 h2=>?_⟩;obtain rfl:i=1:=by simp at h2;omega
 exact⟨by decide,by decide⟩
theorem DK:Rgt 2 y0:=⟨by decide,by decide,by decide,by kernel_rfl⟩
theorem CZ:Z8 2 1 [y0]:=fun i hi=>by
 obtain rfl:i=0:=by simp at hi;omega
 exact⟨⟨DK,rfl⟩,fun h=>absurd h (by omega)⟩
theorem Tv:Ha.Good 2 E0 (nw0 E0 2):=D5 (by decide)
theorem Hf:Zz 2 E0 (nw0 E0 2):=⟨Tv,by decide,by decide⟩
theorem Hh:Zz 2 E0 (frame E0 (nw0 E0 2) [y0]).w:=by
 have h:=EU (n:=2) (by omega) Tv (l:=[y0]) (fun x hx=>by simp at hx;subst hx;exact DK);refine⟨h.1,?_⟩;rw[Tu];decide
theorem Hj{w:World}{g:Nat}{F:Cf}(h0:Cfb w g F)(p q C R:Int)(s:ByteArray)(lo:Option Addr)(n c:Nat):Cfb ((((((w.setCell ⟨g,0,none⟩ (.int .i64 p)).setCell ⟨g,1,none⟩ (.int .u64 q)).setCell ⟨g,2,none⟩ (.int .i64 C)).setCell ⟨g,3,none⟩ (.int .i64 R)).setCell ⟨g,4,none⟩ (.string s)).setCell ⟨g,5,none⟩ (.slice lo n c)) g ⟨p,q,C,R,s,.slice lo n c⟩:=by
 unfold Cfb at h0⊢;have h1:=heap_setCell_same _ g 0 _ _ (.int .i64 p) h0;have h2:=heap_setCell_same _ g 1 _ _ (.int .u64 q) h1;have h3:=heap_setCell_same _ g 2 _ _ (.int .i64 C) h2;have h4:=heap_setCell_same _ g 3 _ _ (.int .i64 R) h3;have h5:=heap_setCell_same _ g 4 _ _ (.string s) h4;have h6:=heap_setCell_same _ g 5 _ _ (.slice lo n c) h5;exact h6.trans (by kernel_rfl)
theorem Hk{a w:World}{g:Nat}(h:Fr (fun k=>k=g) a w)(v0 v1 v2 v3 v4 v5:Value):Fr (fun k=>k=g) a ((((((w.setCell ⟨g,0,none⟩ v0).setCell ⟨g,1,none⟩ v1).setCell ⟨g,2,none⟩ v2).setCell ⟨g,3,none⟩ v3).setCell ⟨g,4,none⟩ v4).setCell ⟨g,5,none⟩ v5):=
 (((((h.setCell _ _ (.inl rfl)).setCell _ _ (.inl rfl)).setCell _ _ (.inl rfl)).setCell _ _ (.inl rfl)).setCell _ _ (.inl rfl)).setCell _ _ (.inl rfl)
theorem Hl{w:World}{g:Nat}{p q C R:Int}{s:ByteArray}{lo:Option Addr}{n c:Nat}(h:Cfb w g ⟨p,q,C,R,s,.slice lo n c⟩):(loadVar 27 ⟨g,0,none⟩).run Tryz.prog w=.ok (.agg #[.int .i64 p,.int .u64 q,.int .i64 C,.int .i64 R,.string s,.slice lo n c]) w:=by
 obtain⟨c0,c1,c2,c3,c4,c5,cf⟩:=h.cells;dsimp only at c0 c1 c2 c3 c4 c5;clear h;go_simp
theorem Hm{fn:Func}{r:Tmp}{w:World}{g:Nat}{p q C R:Int}{s:ByteArray}{lo:Option Addr}{n c:Nat}(hb:Cfb w g ⟨p,q,C,R,s,.slice lo n c⟩)(h:fn.results=#[.cell r 27])(tmps:Array Value)(hp:tmps.getD r undef=.pointer (some ⟨g,0,none⟩)) :
  (results fn tmps).run Tryz.prog w=.ok (.agg #[.int .i64 p,.int .u64 q,.int .i64 C,.int .i64 R,.string s,.slice lo n c]) w:=by
 have hp':tmps[r]?.getD undef=.pointer (some ⟨g,0,none⟩):=by simpa using hp
 simp[results,h,hp',asAddr,Hl hb]
theorem Hn(w:World):Calls Tryz.prog 21 #[] w fun e w'=>∃gl,e=.returned (.agg #[.int .i64 2,.int .u64 7,.int .i64 8,.int .i64 6,.string std3,.slice (some ⟨gl,0,none⟩) 2 2])/\RdI w' (some ⟨gl,0,none⟩) 2 2 [0,2]/\Yc w w':=by
 have HSd:=hid IH;obtain⟨S,eS⟩:∃S,std3=S:=⟨_,rfl⟩;rw[eS]at HSd⊢;clear eS;have A0:=sA w (.cells #[.int .i64 0,.int .u64 0,.int .i64 0,.int .i64 0,.string ByteArray.empty,.slice none 0 0] 27);have p0:Cfb _ w.heap.size ⟨0,0,0,0,ByteArray.empty,.slice none 0 0⟩:=Xn w ⟨0,0,0,0,ByteArray.empty,.slice none 0 0⟩;have HS0:=hid A0;have HP0:=hid p0;clear A0 p0;go_enter Tryz.func21,Tryz.ntmps21;go_wp2_with fail;refine(HSd.o _).mono ?_;rintro e w1 ⟨rfl,h1⟩;have A2:=sA w1 (.cells #[.int .i64 8,.int .i64 6,.string S] 24);have A3:=sA (w1.alloc (.cells #[.int .i64 8,.int .i64 6,.string S] 24)) (.cells #[.int .i64 0,.int .i64 2] 3);have a2:=Y8 w1 8 6 S;have hp:=((HP0.o.sT h1).sT A2).sT A3;have HP3:=hid hp;have HS3:=hid (((HS0.o.trans h1).trans A2).trans A3);have HL3:=hid (Fd (w1.alloc (.cells #[.int .i64 8,.int .i64 6,.string S] 24)) 0 2);have HLT:=hid (show w.heap.size<w1.heap.size from Yz (HP0.o.sT h1));obtain⟨i0,i1,i2,jf⟩:=a2.cells;clear A2 A3 a2 h1;obtain⟨c0,c1,c2,c3,c4,c5,cf⟩:=hp.cells;clear hp;go_wp2_with fail;refine bodyPost_ret (Hm (Hj HP3.o 2 7 8 6 S _ 2 2) rfl _ rfl) rfl ⟨w1.heap.size+1,rfl,?_,Vj HS3.o (Nat.le_refl _) _ _ _ _ _ _⟩;have h:=HL3.o;rw[size_alloc]at h;refine h.kept (Hk (Fr.refl _ _) _ _ _ _ _ _) (fun a ha _ e=>?_);cases ha;have e:w1.heap.size+1=w.heap.size:=e;have:=HLT.o;omega
abbrev nv(x:Nn):Value:=.agg (ncs x)
def Jh(x y:Nn):Bool:=(x.k == y.k) && ((x.a == y.a) && (x.b == y.b))
theorem Tw(x:Nn):Jh x x=true:=by unfold Jh;simp
theorem Ji(x:Nn)(w:World):(part 3 (ncs x) 0).run Tryz.prog w=.ok (.int .i64 x.k) w/\(part 3 (ncs x) 1).run Tryz.prog w=.ok (.int .i64 x.a) w/\(part 3 (ncs x) 2).run Tryz.prog w=.ok (.int .i64 x.b) w:=by
 refine⟨?_,?_,?_⟩<;>go_simp
theorem Tx(x y:Nn)(w:World):(Op.equalIn 10000 47 (nv x) (nv y)).run Tryz.prog w=.ok (Jh x y) w:=by
 have c0:=fun w=>(Ji x w).1;have d0:=fun w=>(Ji y w).1;have r0:=fun w=>ZF 9998 x.k y.k w;have c1:=fun w=>(Ji x w).2.1;have d1:=fun w=>(Ji y w).2.1;have r1:=fun w=>ZF 9998 x.a y.a w;have c2:=fun w=>(Ji x w).2.2;have d2:=fun w=>(Ji y w).2.2;have r2:=fun w=>ZF 9998 x.b y.b w;rw[run_equalIn_struct w 9999 _ _ _ (by kernel_rfl) (by kernel_rfl)];have e : (Tryz.prog.fieldsOf 47) = #[⟨ "Kind", 3, 0, false, "", "", 0⟩, ⟨ "A", 3, 1, false, "", "", 8⟩, ⟨ "B", 3, 2, false, "", "", 16⟩]:=by kernel_rfl
 rw[e];simp only[Op.eqFields,ne_eq,String.reduceEq,not_false_eq_true,if_true,Sem.run_bind,c0,c1,c2,d0,d1,d2,Result.andThen_ok,r0,r1,r2,Sem.run_ite,Sem.run_pure];unfold Jh;exact st (st (st1 _))
theorem Ho(x y:Nn)(w:World):(binOp .eql 47 (nv x) (nv y)).run Tryz.prog w=.ok (.bool (Jh x y)) w:=by
 rw[run_eql_struct,Tx];rfl
theorem Hp(x y:Nn)(w:World):(binOp .neq 47 (nv x) (nv y)).run Tryz.prog w=.ok (.bool (!Jh x y)) w:=by
 rw[run_neq_struct,Tx];rfl
theorem Hq(x:Nn)(w:World):(binOp .eql 47 (nv x) (nv x)).run Tryz.prog w=.ok (.bool true) w:=by
 rw[Ho,Tw]
theorem Hr(x:Nn)(w:World):(binOp .neq 47 (nv x) (nv x)).run Tryz.prog w=.ok (.bool false) w:=by
 rw[Hp,Tw];rfl
theorem Ty(op:BinOp)(a b:Operand)(xs ys:Array Value)(w:World):(eqGuard op 47 a b (.agg xs) (.agg ys)).run Tryz.prog w=.ok () w:=run_eqGuard_agg w op _ a b xs ys (by kernel_rfl)
theorem Hs:(frame E0 (nw0 E0 2) [y0]).w.cs.length=2:=by kernel_rfl
theorem Ht:(frame E0 (nw0 E0 2) [y0]).w.hs.length=0:=by kernel_rfl
theorem Hu:(frame E0 (nw0 E0 2) [y0]).w.ks.length=0:=by kernel_rfl
theorem Hv:(frame E0 (nw0 E0 2) [y0]).w.nx=1:=by kernel_rfl
theorem owN{e:TypeId}{w:World}{B g n cap:Nat}{L:List Nn}(h:OwG KN e w B (.slice (some ⟨g,0,none⟩) n cap) L){i:Nat}(hi:i<L.length):w.cell? ⟨g,i*3,none⟩=some (.int .i64 (L.getD i zNn).k)/\w.cell? ⟨g,i*3+1,none⟩=some (.int .i64 (L.getD i zNn).a)/\w.cell? ⟨g,i*3+2,none⟩=some (.int .i64 (L.getD i zNn).b)/\∀o,w.frozen? ⟨g,o,none⟩=false:=
 ⟨h.get hi 0 _ rfl,h.get hi 1 _ rfl,h.get hi 2 _ rfl,h.frozen⟩
theorem Tz(w:World)(y:Cm):RdG KX (w.alloc (.cells (xcs y) 63)) (some ⟨w.heap.size,0,none⟩) 1 [y]:=by
 refine⟨rfl,by omega,.inr ⟨w.heap.size,0,rfl,fun i hi j u hj=>?_⟩⟩;obtain rfl:i=0:=by omega
 have hb:=heap_alloc_new w (.cells (xcs y) 63);rw[cell_of_row _ _ _ _ _ _ hb];have hj':(xcs y).toList[j]?=some u:=hj;rw[Array.getElem?_toList]at hj';simpa using hj'
theorem Kf(gl:Nat)(u:World):Q13 u ⟨2,7,8,6,std3,.slice (some ⟨gl,0,none⟩) 2 2⟩ 0 E0.st E0.sp:=by
 have h:=Tq ⟨2,7,8,6,std3,.slice (some ⟨gl,0,none⟩) 2 2⟩ 0 Cw u;dsimp only at h;rw[CR,CT]at h;exact h
theorem T6(gl:Nat)(u:World)(ht:Tab u)(hd:DTab u):P13 u ⟨2,7,8,6,std3,.slice (some ⟨gl,0,none⟩) 2 2⟩ E0:=Tr ⟨2,7,8,6,std3,.slice (some ⟨gl,0,none⟩) 2 2⟩ (show std3.size<=281474976710656 by decide +kernel) _ _ u ht hd
theorem Hw(gl:Nat)(u:World)(hl:RdI u (some ⟨gl,0,none⟩) 2 2 [0,2]):Calls Tryz.prog 16 #[.agg #[.int .i64 2,.int .u64 7,.int .i64 8,.int .i64 6,.string std3,.slice (some ⟨gl,0,none⟩) 2 2]] u fun e w'=>∃v,e=.returned (.tuple #[v,.int .i64 0])/\OwW w' u.heap.size v (nw0 E0 2)/\Yc u w':=
 F8 2 7 8 6 std3 (some ⟨gl,0,none⟩) 2 2 E0 [0,2] u 0 (Kf gl u) hl Jg
theorem Hy(gl:Nat)(u:World)(hl:RdI u (some ⟨gl,0,none⟩) 2 2 [0,2]):Ya 22 #[.agg #[.int .i64 2,.int .u64 7,.int .i64 8,.int .i64 6,.string std3,.slice (some ⟨gl,0,none⟩) 2 2]] u (.int .i64 0):=
 PI 2 7 8 6 std3 (some ⟨gl,0,none⟩) 2 2 E0 [0,2] u 0 (Kf gl u) hl Jg
theorem Hz(gl:Nat)(u:World)(hl:RdI u (some ⟨gl,0,none⟩) 2 2 [0,2])(v:Value)(hv:RdW u v (frame E0 (nw0 E0 2) [y0]).w):Ya 23 #[.agg #[.int .i64 2,.int .u64 7,.int .i64 8,.int .i64 6,.string std3,.slice (some ⟨gl,0,none⟩) 2 2],v] u (.int .i64 0):=by
 have h:=PK 2 7 8 6 std3 (some ⟨gl,0,none⟩) 2 2 E0 [0,2] u 0 (Kf gl u) hl Jg _ v hv;rw[show Xt ((2:Nat):Int) E0 (frame E0 (nw0 E0 2) [y0]).w=0 from JK Hh]at h;exact h
theorem H6{p v0:Int}{E:Env}{l:List Int}{W:Wd}{cs:List Cm}(hc:Zt p v0 E.st.length l)(hF:Zz p E W)(hm:W.fr≠1099511627776)(hO:Z8 p (W.fr+1) cs):stE p v0 E l W cs=0:=by
 unfold stE;rw[if_neg (not_not_intro hc),if_neg (not_not_intro hF),if_neg hm,if_neg (not_not_intro hO)]
theorem H7(gl gx:Nat)(u:World)(ht:Tab u)(hd:DTab u)(hl:RdI u (some ⟨gl,0,none⟩) 2 2 [0,2])(v:Value)(hv:RdW u v (nw0 E0 2))(hx:RdG KX u (some ⟨gx,0,none⟩) 1 [y0]):Calls Tryz.prog 9 #[.agg #[.int .i64 2,.int .u64 7,.int .i64 8,.int .i64 6,.string std3,.slice (some ⟨gl,0,none⟩) 2 2],v,.slice (some ⟨gx,0,none⟩) 1 1] u fun e w'=>F9 u w' E0 (nw0 E0 2) [y0] e:=
 (FA 2 7 8 6 std3 (some ⟨gl,0,none⟩) 2 2 E0 [0,2] u 0 (Kf gl u) (T6 gl u ht hd) hl Jg (by decide) (nw0 E0 2) v hv (some ⟨gx,0,none⟩) 1 1 [y0] hx (by omega)).mono fun e w' h=>h.1 (H6 Jg Hf (by decide) CZ)
theorem H8(gl gx:Nat)(u:World)(ht:Tab u)(hd:DTab u)(hl:RdI u (some ⟨gl,0,none⟩) 2 2 [0,2])(hx:RdG KX u (some ⟨gx,0,none⟩) 1 [y0]):Calls Tryz.prog 19 #[.agg #[.int .i64 2,.int .u64 7,.int .i64 8,.int .i64 6,.string std3,.slice (some ⟨gl,0,none⟩) 2 2],.int .i64 1,.slice (some ⟨gx,0,none⟩) 1 1] u fun e w'=>∃v,e=.returned (.tuple #[v,.int .i64 0])/\OwW w' u.heap.size v (frame E0 (nw0 E0 2) [y0]).w/\Yc u w':=
 PM 2 7 8 6 std3 (some ⟨gl,0,none⟩) 2 2 E0 [0,2] u 0 (Kf gl u) (T6 gl u ht hd) hl Jg (by decide) 1 1 7 9 0 0 DK gx 1 hx
theorem H9(w:World)(ht:Tab w)(hd:DTab w):Ya 6 #[] w (.bool true):=by
 have HSes:=hid Hn;have HNew:=hid Hw;have HCfg:=hid Hy;have HChk:=hid Hz;have HStp:=hid H7;have HRef:=hid H8;obtain⟨S,eS⟩:∃S,std3=S:=⟨_,rfl⟩;rw[eS]at HSes;simp only[eS]at HNew HCfg HChk HStp HRef;clear eS;have HT:=hid ht;have HDt:=hid hd;clear ht hd;have G1:=U1;have G2:=fun w=>Ak (x:=26624) (y:=6144) (z:=26624) (u:=6144) ⟨rfl,rfl⟩ w;have G3:=Ty;have G4:=fun w=>Hq ⟨8,1,9⟩ w;go_enter Tryz.func6,Tryz.ntmps6;go_wp2_with fail;refine(HSes.o _).mono ?_;rintro e w1 ⟨gl,rfl,hl,h1⟩;have A1:=sA w1 (.cells #[.int .i64 2,.int .u64 7,.int .i64 8,.int .i64 6,.string S,.slice (some ⟨gl,0,none⟩) 2 2] 27);have HP1:Hid (Cfb (w1.alloc (.cells #[.int .i64 2,.int .u64 7,.int .i64 8,.int .i64 6,.string S,.slice (some ⟨gl,0,none⟩) 2 2] 27)) w1.heap.size ⟨2,7,8,6,S,.slice (some ⟨gl,0,none⟩) 2 2⟩):=hid (Xn w1 ⟨2,7,8,6,S,.slice (some ⟨gl,0,none⟩) 2 2⟩);have HL1:=hid (hl.sT A1);have HS1:Hid (Yc w (w1.alloc (.cells #[.int .i64 2,.int .u64 7,.int .i64 8,.int .i64 6,.string S,.slice (some ⟨gl,0,none⟩) 2 2] 27))):=hid (h1.trans A1);clear hl h1 A1;obtain⟨W1,eW1⟩:∃X,w1.alloc (.cells #[.int .i64 2,.int .u64 7,.int .i64 8,.int .i64 6,.string S,.slice (some ⟨gl,0,none⟩) 2 2] 27)=X:=⟨_,rfl⟩;rw[eW1]at HP1 HL1 HS1;obtain⟨b1,eb1⟩:∃k,w1.heap.size=k:=⟨_,rfl⟩;rw[eb1]at HP1;obtain⟨c0,c1,c2,c3,c4,c5,cf⟩:=HP1.o.cells;dsimp only at c0 c1 c2 c3 c4 c5;go_wp2_with fail;refine(HNew.o gl W1 HL1.o).mono ?_;rintro e w2 ⟨u,rfl,hW,h2⟩;have hV:=OwW.rd hW (by decide) (by decide) (by decide) (by decide);obtain⟨a,b,c,d,rfl,q1,q2,q3,q4⟩:=hW;obtain⟨gm,cm1,rfl,_,_⟩:=q1.head (by decide);obtain⟨xb,yb,rfl,_⟩:=q2.slice;obtain⟨xc,yc,rfl,_⟩:=q3.slice;obtain⟨xd,yd,rfl,_⟩:=q4.slice;simp only[show(nw0 E0 2).fr=0 from rfl,show(nw0 E0 2).nx=1 from rfl,show(nw0 E0 2).ms.length=2 from rfl,show(nw0 E0 2).cs.length=2 from rfl,show(nw0 E0 2).hs.length=0 from rfl,show(nw0 E0 2).ks.length=0 from rfl]at q1 hV⊢;have A2:=sA w2 (.cells (Ye 0 1 (.slice (some ⟨gm,0,none⟩) 2 cm1) (.slice xb 2 yb) (.slice xc 0 yc) (.slice xd 0 yd)) 33);have hs2:=h2.trans A2;have HP2:=hid (HP1.o.sT hs2);have HL2:=hid (HL1.o.sT hs2);have HS2:=hid (HS1.o.trans hs2);have HV2:=hid (hV.sT A2);have HM2:=hid (q1.sT A2);have hN2:Wdb (w2.alloc (.cells (Ye 0 1 (.slice (some ⟨gm,0,none⟩) 2 cm1) (.slice xb 2 yb) (.slice xc 0 yc) (.slice xd 0 yd)) 33)) w2.heap.size 0 1 (.slice (some ⟨gm,0,none⟩) 2 cm1) (.slice xb 2 yb) (.slice xc 0 yc) (.slice xd 0 yd):=Zl w2 0 1 _ _ _ _;have HN2:=hid hN2;clear hV q1 q2 q3 q4 A2 h2 hs2 hN2 c0 c1 c2 c3 c4 c5 cf eW1 eb1 HP1 HL1 HS1;obtain⟨W2,eW2⟩:∃X,w2.alloc (.cells (Ye 0 1 (.slice (some ⟨gm,0,none⟩) 2 cm1) (.slice xb 2 yb) (.slice xc 0 yc) (.slice xd 0 yd)) 33)=X:=⟨_,rfl⟩;rw[eW2]at HP2 HL2 HS2 HV2 HM2 HN2;obtain⟨b2,eb2⟩:∃k,w2.heap.size=k:=⟨_,rfl⟩;rw[eb2]at HN2;obtain⟨c0,c1,c2,c3,c4,c5,cf⟩:=HP2.o.cells;dsimp only at c0 c1 c2 c3 c4 c5;obtain⟨d0,d1,d2,d3,d4,d5,df⟩:=HN2.o.cells;obtain⟨m0,m1,m2,m3,m4,m5,m6,m7,m8,m9,m10,m11,m12,mf⟩:=owM HM2.o (i:=1) (by decide);rw[show mm (nw0 E0 2).ms 1=⟨26624,6144,0,0,0,0,4,100,50,false,0,0,0⟩from CU]at m0 m1 m2 m3 m4 m5 m6 m7 m8 m9 m10 m11 m12;simp only[Nat.one_mul,Nat.reduceAdd]at m0 m1 m2 m3 m4 m5 m6 m7 m8 m9 m10 m11 m12;have A3:=sA W2 (.cells (xcs y0) 63);have HP3:=hid (HP2.o.sT A3);have HL3:=hid (HL2.o.sT A3);have HS3:=hid (HS2.o.trans A3);have HV3:=hid (HV2.o.sT A3);have HX3:=hid (Tz W2 y0);clear A3;go_wp2_with fail;refine(HStp.o gl _ _ (HT.o.sT HS3.o) (HDt.o.sT HS3.o) HL3.o _ HV3.o HX3.o).mono ?_;rintro e w4 ⟨⟨u4,nv4,rfl,hW4,hn4⟩,h4⟩;have hns:=CW;have hsd:=CX;have hml:=CY;have hfr:=Tu;have hcs:=Hs;have hhs:=Ht;have hks:=Hu;have hnx:=Hv;obtain⟨G,eG⟩:∃G,frame E0 (nw0 E0 2) [y0]=G:=⟨_,rfl⟩;rw[eG]at hns hsd hml hfr hcs hhs hks hnx hW4 hn4;simp only[eG]at HChk HRef;clear eG;have hV4:=OwW.rd hW4 (by omega) (by omega) (by omega) (by omega);obtain⟨a,b,c,d,rfl,q1,q2,q3,q4⟩:=hW4;obtain⟨gm4,cm4,rfl,_,_⟩:=q1.head (by omega);obtain⟨xb4,yb4,rfl,_⟩:=q2.slice;obtain⟨xc4,yc4,rfl,_⟩:=q3.slice;obtain⟨xd4,yd4,rfl,_⟩:=q4.slice;rw[hns]at hn4;obtain⟨gn,cn,rfl,_,_⟩:=hn4.head (by decide);simp only[hfr,hnx,hml,hcs,hhs,hks,List.length_cons,List.length_nil,Nat.zero_add]at q1 hV4 hn4⊢;have A4:=sA w4 (.cells (Ye 1 1 (.slice (some ⟨gm4,0,none⟩) 2 cm4) (.slice xb4 2 yb4) (.slice xc4 0 yc4) (.slice xd4 0 yd4)) 33);have hs4:=h4.trans A4;have HP4:=hid (HP3.o.sT hs4);have HL4:=hid (HL3.o.sT hs4);have HS4:=hid (HS3.o.trans hs4);have HV4:=hid (hV4.sT A4);have HM4:=hid (q1.sT A4);have HNn4:=hid (hn4.sT A4);have hN4:Wdb (w4.alloc (.cells (Ye 1 1 (.slice (some ⟨gm4,0,none⟩) 2 cm4) (.slice xb4 2 yb4) (.slice xc4 0 yc4) (.slice xd4 0 yd4)) 33)) w4.heap.size 1 1 (.slice (some ⟨gm4,0,none⟩) 2 cm4) (.slice xb4 2 yb4) (.slice xc4 0 yc4) (.slice xd4 0 yd4):=Zl w4 1 1 _ _ _ _;have HN4:=hid hN4;have HSd:=hid hsd;have HMl:=hid hml;have HLs:=hid (And.intro hcs (And.intro hhs (And.intro hks (And.intro hfr hnx))));clear hV4 q1 q2 q3 q4 hn4 A4 h4 hs4 hN4 c0 c1 c2 c3 c4 c5 cf d0 d1 d2 d3 d4 d5 df m0 m1 m2 m3 m4 m5 m6 m7 m8 m9 m10 m11 m12 mf eW2 eb2 HP3 HL3 HS3 HV3 HX3 HP2 HL2 HS2 HV2 HM2 HN2 hns hsd hml hfr hcs hhs hks hnx;obtain⟨W4,eW4⟩:∃X,w4.alloc (.cells (Ye 1 1 (.slice (some ⟨gm4,0,none⟩) 2 cm4) (.slice xb4 2 yb4) (.slice xc4 0 yc4) (.slice xd4 0 yd4)) 33)=X:=⟨_,rfl⟩;rw[eW4]at HP4 HL4 HS4 HV4 HM4 HNn4 HN4;obtain⟨b4,eb4⟩:∃k,w4.heap.size=k:=⟨_,rfl⟩;rw[eb4]at HN4;obtain⟨c0,c1,c2,c3,c4,c5,cf⟩:=HP4.o.cells;dsimp only at c0 c1 c2 c3 c4 c5;obtain⟨d0,d1,d2,d3,d4,d5,df⟩:=HN4.o.cells;obtain⟨m0,m1,m2,m3,m4,m5,m6,m7,m8,m9,m10,m11,m12,mf⟩:=owM HM4.o (i:=1) (by rw[HMl.o];omega);simp only[Nat.one_mul,Nat.reduceAdd,HSd.o]at m0 m1 m2 m3 m4 m5 m6 m7 m8 m9 m10 m11 m12;have A5:=sA W4 (.cells (xcs y0) 63);have HP5:=hid (HP4.o.sT A5);have HL5:=hid (HL4.o.sT A5);have HS5:=hid (HS4.o.trans A5);have HV5:=hid (HV4.o.sT A5);have HX5:=hid (Tz W4 y0);have HN5:=hid (HN4.o.sT A5);have HM5:=hid (HNn4.o.sT A5);clear A5;go_wp2_with fail;refine(HRef.o gl _ _ (HT.o.sT HS5.o) (HDt.o.sT HS5.o) HL5.o HX5.o).mono ?_;rintro e w6 ⟨u6,rfl,hW6,h6⟩;have hV6:=OwW.rd hW6 (by rw[HMl.o];omega) (by rw[HLs.o.1];omega) (by rw[HLs.o.2.1];omega) (by rw[HLs.o.2.2.1];omega);obtain⟨a,b,c,d,rfl,q1,q2,q3,q4⟩:=hW6;obtain⟨gm6,cm6,rfl,_,_⟩:=q1.head (by rw[HMl.o];omega);obtain⟨xb6,yb6,rfl,_⟩:=q2.slice;obtain⟨xc6,yc6,rfl,_⟩:=q3.slice;obtain⟨xd6,yd6,rfl,_⟩:=q4.slice;simp only[HMl.o,HLs.o.1,HLs.o.2.1,HLs.o.2.2.1,HLs.o.2.2.2.1,HLs.o.2.2.2.2]at hV6⊢;have A6:=sA w6 (.cells (Ye 1 1 (.slice (some ⟨gm6,0,none⟩) 2 cm6) (.slice xb6 2 yb6) (.slice xc6 0 yc6) (.slice xd6 0 yd6)) 33);have hs6:=h6.trans A6;have HP6:=hid (HP5.o.sT hs6);have HL6:=hid (HL5.o.sT hs6);have HS6:=hid (HS5.o.trans hs6);have HVa:=hid (HV5.o.sT hs6);have HVb:=hid (hV6.sT A6);have HN6:=hid (HN5.o.sT hs6);have HM6:=hid (HM5.o.sT hs6);have hN6:Wdb (w6.alloc (.cells (Ye 1 1 (.slice (some ⟨gm6,0,none⟩) 2 cm6) (.slice xb6 2 yb6) (.slice xc6 0 yc6) (.slice xd6 0 yd6)) 33)) w6.heap.size 1 1 (.slice (some ⟨gm6,0,none⟩) 2 cm6) (.slice xb6 2 yb6) (.slice xc6 0 yc6) (.slice xd6 0 yd6):=Zl w6 1 1 _ _ _ _;have HK6:=hid hN6;clear hV6 q1 q2 q3 q4 A6 h6 hs6 hN6 c0 c1 c2 c3 c4 c5 cf d0 d1 d2 d3 d4 d5 df m0 m1 m2 m3 m4 m5 m6 m7 m8 m9 m10 m11 m12 mf eW4 eb4 HP5 HL5 HS5 HV5 HX5 HN5 HM5 HP4 HL4 HS4 HV4 HM4 HNn4 HN4;obtain⟨W6,eW6⟩:∃X,w6.alloc (.cells (Ye 1 1 (.slice (some ⟨gm6,0,none⟩) 2 cm6) (.slice xb6 2 yb6) (.slice xc6 0 yc6) (.slice xd6 0 yd6)) 33)=X:=⟨_,rfl⟩;rw[eW6]at HP6 HL6 HS6 HVa HVb HN6 HM6 HK6;obtain⟨b6,eb6⟩:∃k,w6.heap.size=k:=⟨_,rfl⟩;rw[eb6]at HK6;obtain⟨d0,d1,d2,d3,d4,d5,df⟩:=HN6.o.cells;obtain⟨f0,f1,f2,f3,f4,f5,ff⟩:=HK6.o.cells;go_wp2_with fail;refine(Nc G.w _ _ W6 HVa.o HVb.o).mono ?_;rintro e w7 ⟨rfl,h7⟩;have HP7:=hid (HP6.o.sT h7);have HL7:=hid (HL6.o.sT h7);have HS7:=hid (HS6.o.trans h7);have HV7:=hid (HVa.o.sT h7);have HN7:=hid (HN6.o.sT h7);have HM7:=hid (HM6.o.sT h7);clear h7 d0 d1 d2 d3 d4 d5 df f0 f1 f2 f3 f4 f5 ff eW6 eb6 HP6 HL6 HS6 HVa HVb HN6 HM6 HK6;obtain⟨c0,c1,c2,c3,c4,c5,cf⟩:=HP7.o.cells;dsimp only at c0 c1 c2 c3 c4 c5;go_wp2_with fail;refine(HCfg.o gl w7 HL7.o).mono ?_;rintro e w8 ⟨rfl,h8⟩;have HP8:=hid (HP7.o.sT h8);have HL8:=hid (HL7.o.sT h8);have HS8:=hid (HS7.o.trans h8);have HV8:=hid (HV7.o.sT h8);have HN8:=hid (HN7.o.sT h8);have HM8:=hid (HM7.o.sT h8);clear h8 c0 c1 c2 c3 c4 c5 cf HP7 HL7 HS7 HV7 HN7 HM7;obtain⟨c0,c1,c2,c3,c4,c5,cf⟩:=HP8.o.cells;dsimp only at c0 c1 c2 c3 c4 c5;obtain⟨d0,d1,d2,d3,d4,d5,df⟩:=HN8.o.cells;go_wp2_with fail;refine(HChk.o gl w8 HL8.o _ HV8.o).mono ?_;rintro e w9 ⟨rfl,h9⟩;have HS9:=hid (HS8.o.trans h9);obtain⟨n0,n1,n2,nf⟩:=owN (HM8.o.sT h9) (i:=0) (by decide);simp only[Nat.zero_mul,Nat.zero_add,List.getD_cons_zero]at n0 n1 n2;clear h9 c0 c1 c2 c3 c4 c5 cf d0 d1 d2 d3 d4 d5 df HP8 HL8 HS8 HV8 HN8 HM8;go_wp2_with fail;go_ret;exact⟨rfl,HS9.o⟩
attribute [local go_sem] zr YD
theorem Yaa{α:Type}{K:Kd α}{e:TypeId}{w:World}{B:Nat}{v:Value}{L:List α}(h:OwG K e w B v L):L.length<=9223372036854775807:=by
 rcases h.2 with⟨_,hn⟩|⟨g,cap,cur,_,_,_,hn,hm,_⟩
 ·omega
 ·unfold maxLen at hm;omega
theorem T7{w:World}{B g n cap:Nat}{L:List Nn}{x:Nn}(h:OwG KN 47 w B (.slice (some ⟨g,0,none⟩) n cap) L){i:Nat}(hi:i<L.length)(hx:L.getD i zNn=x):(∀z:Aft w,z.u.cell? ⟨g,i*3,none⟩=some (.int .i64 x.k))/\(∀z:Aft w,z.u.cell? ⟨g,i*3+1,none⟩=some (.int .i64 x.a))/\∀z:Aft w,z.u.cell? ⟨g,i*3+2,none⟩=some (.int .i64 x.b):=by
 subst hx;exact⟨kC (h.get hi 0 _ rfl),kC (h.get hi 1 _ rfl),kC (h.get hi 2 _ rfl)⟩
theorem Yab(L:List Nn)(B B':Nat)(ao bo:Option Addr)(ca cb:Nat)(w:World)(ha:OwG KN 47 w B (.slice ao L.length ca) L)(hb:OwG KN 47 w B' (.slice bo L.length cb) L):Ya 12 #[.slice ao L.length ca,.slice bo L.length cb] w (.bool true):=by
 have HR:=hid (And.intro ha hb);have hm:=Yaa ha;have G:=Ty;clear ha hb;obtain⟨n,en⟩:∃n,L.length=n:=⟨_,rfl⟩;have HN:=hid en;rw[en]at HR hm⊢;clear en;unfold Ya;go_in;go_wp2_with fail
 go_loopw [5] (fun u wr=>∃i:Nat,i<=n/\u=.int .i64 (i:Int)/\Yc w wr) (fun u _=>n - (intOf u).toNat);case atStart=>exact⟨0,by omega,rfl,Fr.refl _ _⟩
 case round =>
  obtain⟨i,hi,rfl,hs⟩:=hrel;have HS:=hid hs;by_cases hlt:i<n
  ·have hlt':(i:Int)<(n:Int):=by omega
   have r0:=HR.o.1.sT hs;have r1:=HR.o.2.sT hs;obtain⟨A,c,e1,-,-⟩:=r0.head (by rw[HN.o];omega);obtain⟨D,d,e2,-,-⟩:=r1.head (by rw[HN.o];omega);injection e1 with e1;subst e1
   injection e2 with e2;subst e2
   obtain⟨x,ex⟩:∃x,L.getD i zNn=x:=⟨_,rfl⟩;have E1:=Hr x;obtain⟨y0,y1,y2⟩:=T7 r0 (by rw[HN.o];exact hlt) ex;obtain⟨x0,x1,x2⟩:=T7 r1 (by rw[HN.o];exact hlt) ex;have hne:=Aft.here wr;clear r0 r1 hs ex;go_wp2_with fail;refine Yk (by kernel_rfl) (by kernel_rfl) ?_;repeat(go_big_quiet_step (fail))
   refine wpQuiet_nil ?_;intro w2 h2;have HS2:=hid (HS.o.trans h2);clear h2 hne E1 y0 x0 y1 x1 y2 x2;go_wp2_with fail;go_roundw;case rel=>exact⟨i+1,by omega,by go_num,HS2.o⟩
   case measure=>simp[intOf];omega
  ·have hge:¬(i:Int)<(n:Int):=by omega
   go_wp2_with fail;go_ret;exact⟨rfl,HS.o⟩
structure Ws where
 fr:Int
 nx:Int
 a:Option Addr
 l1:Nat
 ca:Nat
 b:Option Addr
 l2:Nat
 cb:Nat
 c:Option Addr
 l3:Nat
 cc:Nat
 d:Option Addr
 l4:Nat
 cd:Nat
abbrev Ws.cs(X:Ws):Array Value:=Ye X.fr X.nx (.slice X.a X.l1 X.ca) (.slice X.b X.l2 X.cb) (.slice X.c X.l3 X.cc) (.slice X.d X.l4 X.cd)
structure On4 (w:World) (B:Nat) (W:Wd) (X:Ws):Prop where
 fr:W.fr=X.fr
 nx:W.nx=X.nx
 o1:OwG KM 59 w B (.slice X.a X.l1 X.ca) W.ms
 o2:OwG KC 67 w B (.slice X.b X.l2 X.cb) W.cs
 o3:OwG KS 69 w B (.slice X.c X.l3 X.cc) W.hs
 o4:OwG KQ 71 w B (.slice X.d X.l4 X.cd) W.ks
variable {w w' a b c d:World} {B B' y z:Nat} {W:Wd} {X:Ws}
theorem On4.sT(h:On4 w B W X)(hs:Yc w w'):On4 w' B W X:=⟨h.1,h.2,h.3.sT hs,h.4.sT hs,h.5.sT hs,h.6.sT hs⟩
theorem On4.less(h:On4 w B W X)(hb:B' <= B):On4 w B' W X:=⟨h.1,h.2,h.3.less hb,h.4.less hb,h.5.less hb,h.6.less hb⟩
def FZ(F:Nat->Prop)(a b:World):Prop:=Fr F a b/\a.heap.size=b.heap.size
variable {F:Nat->Prop}
theorem FZ.refl(a:World):FZ F a a:=⟨Fr.refl _ _,rfl⟩
theorem FZ.fr(h:FZ F a b):Fr F a b:=h.1
theorem FZ.at(h:FZ F a b)(hz:F a.heap.size)(o p:Obj):FZ F (a.alloc o) (b.alloc p):=by
 obtain⟨⟨h1,h2,h3,h4,h5⟩,h6⟩:=h;refine⟨⟨h1,h2,h3,by simp;omega,fun k hk hn=>?_⟩,by simp[h6]⟩;have hlt:k<a.heap.size:=by
  have:k<a.heap.size+1:=by simpa using hk
  have:k≠a.heap.size:=fun e=>hn (e ▸ hz);omega
 rw[Xf b p k (by omega),Xf a o k hlt];exact h5 k hlt hn
theorem FZ.alloc(h:FZ F a b)(o:Obj):FZ F (a.alloc o) (b.alloc o):=by
 obtain⟨⟨h1,h2,h3,h4,h5⟩,h6⟩:=h;refine⟨⟨h1,h2,h3,by simp;omega,fun k hk hn=>?_⟩,by simp[h6]⟩;by_cases hlt:k<a.heap.size
 ·rw[Xf b o k (by omega),Xf a o k hlt];exact h5 k hlt hn
 ·have:k<a.heap.size+1:=by simpa using hk
  rw[XR b o k (by omega),XR a o k (by omega)]
theorem FZ.more(h:FZ F a b)(J:Array Obj)(n:Nat):FZ F (more a J n) (more b J n):=by
 obtain⟨⟨h1,h2,h3,h4,h5⟩,h6⟩:=h;refine⟨⟨h1,h2,h3,by rw[X0,X0];omega,fun k hk hn=>?_⟩,by rw[X0,X0,h6]⟩;by_cases hlt:k<a.heap.size
 ·rw[VO k (by omega),VO k hlt];exact h5 k hlt hn
 ·unfold Go.Proofs.YtcgmohldcokccaaGreatDoor.more;show(b.heap ++ J)[k]?=(a.heap ++ J)[k]?;rw[Array.getElem?_append_right (by omega),Array.getElem?_append_right (by omega),h6]
theorem zgo{p:Prop}(h:p:=by
  (repeat(first|with_reducible refine FZ.fr (FZ.more ?_ _ _)|with_reducible refine WG ?_ _ _|with_reducible refine Fr.drew ?_|with_reducible refine Fr.alloc ?_ _))
  (repeat(first|with_reducible exact FZ.refl _|with_reducible refine FZ.more ?_ _ _|with_reducible refine FZ.alloc ?_ _|(with_reducible refine FZ.at ?_ ?_ _ _;rotate_left;(first|exact Or.inl zsz|exact Or.inr zsz|exact zsz))))):p:=h
theorem zlo{p:Prop}(h:p:=by(intro k hk;simp only[World.size_alloc,World.size_drew,zr]at hk⊢;omega)):p:=h
theorem On4.go(h:On4 a B W X)(hs:Fr F a d)(hF:∀k,F k->k<B)(hB:B' <= B):On4 d B' W X:=⟨h.1,h.2,(h.3.keepB hs hF).less hB,(h.4.keepB hs hF).less hB,(h.5.keepB hs hF).less hB,(h.6.keepB hs hF).less hB⟩
abbrev QE(W:Wd):Prop:=W.ms.length<=281474976710656/\W.cs.length<=281474976710656/\W.hs.length<=281474976710656/\W.ks.length<=281474976710656
theorem On4.rd(h:On4 w B W X)(hl:QE W):RdW w (.agg X.cs) W:=by
 obtain⟨h0,h5,h1,h2,h3,h4⟩:=h;unfold Ws.cs;rw[<- h0,<- h5];exact OwW.rd ⟨_,_,_,_,rfl,h1,h2,h3,h4⟩ hl.1 hl.2.1 hl.2.2.1 hl.2.2.2
theorem DL{u:Value}(h:OwW w B u W):∃X:Ws,u=.agg X.cs/\On4 w B W X:=by
 obtain⟨a,b,c,d,rfl,q1,q2,q3,q4⟩:=h;obtain⟨za,ca,rfl,_⟩:=q1.slice;obtain⟨zb,cb,rfl,_⟩:=q2.slice;obtain⟨zc,cc,rfl,_⟩:=q3.slice;obtain⟨zd,cd,rfl,_⟩:=q4.slice;exact⟨⟨_,_,za,_,ca,zb,_,cb,zc,_,cc,zd,_,cd⟩,rfl,rfl,rfl,q1,q2,q3,q4⟩
def oWd:Wd:=⟨0,[],[],[],[],0⟩
theorem DM(w:World)(B:Nat):On4 w B oWd ⟨0,0,none,0,0,none,0,0,none,0,0,none,0,0⟩:=⟨rfl,rfl,OwG.nil w B,OwG.nil w B,OwG.nil w B,OwG.nil w B⟩
def NwS(u w':World)(W:Wd)(se:Int)(e:Ending):Prop:=∃X:Ws,e=.returned (.tuple #[.agg X.cs,.int .i64 se])/\On4 w' u.heap.size W X/\Yc u w'
def StS(u w':World)(W:Wd)(ns:List Nn)(se:Int)(e:Ending):Prop:=∃(X:Ws) (zo:Option Addr) (zc:Nat),e=.returned (.tuple #[.agg X.cs,.slice zo ns.length zc,.int .i64 se])/\On4 w' u.heap.size W X/\OwG KN 47 w' u.heap.size (.slice zo ns.length zc) ns/\Yc u w'
theorem T8{u w':World}{E:Env}{W:Wd}{cs:List Cm}{se:Int}{e:Ending}(h:StQ u w' E W cs se e):StS u w' (if se=0 then(frame E W cs).w else oWd) (if se=0 then(frame E W cs).ns else []) se e:=by
 by_cases h0:se=0
 ·obtain⟨⟨x,nv,he,hx,hn⟩,hs⟩:=h.1 h0;obtain⟨X,rfl,ho⟩:=DL hx;obtain⟨zn,cn,rfl,_⟩:=hn.slice;rw[if_pos h0,if_pos h0];exact⟨X,zn,cn,by rw[he,h0],ho,hn,hs⟩
 ·obtain⟨he,hs⟩:=h.2 h0;rw[if_neg h0,if_neg h0];exact⟨_,none,0,he,DM _ _,OwG.nil _ _,hs⟩
attribute [local go_sem] zr YD
theorem T9(p q C R:Int)(s:ByteArray)(lo:Option Addr)(ln lc:Nat)(a:Int)(xo:Option Addr)(n xcp:Nat)(L:List Cm)(g47:56*n<=140737488351232)(w:World)(hx:RdG KX w xo n L)(I:Nat->Wd->Prop)(S:Wd->List Cm->Int)(X:Wd->List Cm->Wd)(Y:Wd->List Cm->List Nn)(W0:Wd)(s0:Int)
  (hI:∀i W,I i W->W.fr=(i:Int)/\QE W) (h0:s0=0->I 0 W0) (hX:∀i W cs,I i W->QE (X W cs)) (hS:∀i W cs,I i W->S W cs=0->I (i+1) (X W cs))
  (hA:∀u,Yc w u->Ya 6 #[] u (.bool true))
  (hN:∀u,Yc w u->Calls Tryz.prog 16 #[.agg #[.int .i64 p,.int .u64 q,.int .i64 C,.int .i64 R,.string s,.slice lo ln lc]] u fun e w'=>NwS u w' W0 s0 e)
  (hM:∀u,Yc w u->Calls Tryz.prog 17 #[.agg #[.int .i64 p,.int .u64 q,.int .i64 C,.int .i64 R,.string s,.slice lo ln lc]] u fun e w'=>NwS u w' W0 s0 e)
  (hP:∀i W v u yo m yc cs,I i W->Yc w u->RdW u v W->RdG KX u yo m cs->m<=n->Calls Tryz.prog 9 #[.agg #[.int .i64 p,.int .u64 q,.int .i64 C,.int .i64 R,.string s,.slice lo ln lc],v,.slice yo m yc] u fun e w'=>StS u w' (X W cs) (Y W cs) (S W cs) e)
  (hD:∀i W v u yo m yc cs,I i W->Yc w u->RdW u v W->RdG KX u yo m cs->m<=n->Calls Tryz.prog 10 #[.agg #[.int .i64 p,.int .u64 q,.int .i64 C,.int .i64 R,.string s,.slice lo ln lc],v,.slice yo m yc] u fun e w'=>StS u w' (X W cs) (Y W cs) (S W cs) e) :
  Ya 4 #[.agg #[.int .i64 p,.int .u64 q,.int .i64 C,.int .i64 R,.string s,.slice lo ln lc],.int .i64 a,.slice xo n xcp] w (.bool true):=by
 have HI:=hid hI;have HX0:=hid hX;have HSt:=hid hS;have HA:=hid hA;have HN:=hid hN;have HM:=hid hM;have HP:=hid hP;have HD:=hid hD;have HX:=hid hx;have H0:=hid h0;clear hI hX hS hA hN hM hP hD hx h0;unfold Ya;go_in;go_wp2_with fail
 refine zc (HA.o _ zst) ?_;intro J0 n0
 go_wp2_with fail;refine(HN.o _ zst).mono ?_;rintro e w1 ⟨⟨f1,x1,a1,l1,ca1,b1,m1,cb1,c1,k1,cc1,d1,j1,cd1⟩,rfl,O1,h1⟩;obtain⟨J1,n1,rfl⟩:=h1.more;have O1:=hid O1;clear h1;go_wp2_with fail;refine(HM.o _ zst).mono ?_;rintro e w1 ⟨⟨f2,x2,a2,l2,ca2,b2,m2,cb2,c2,k2,cc2,d2,j2,cd2⟩,rfl,O2,h1⟩;obtain⟨J2,n2,rfl⟩:=h1.more;have O2:=hid O2;clear h1;by_cases hs0:s0=0;rotate_left
 ·go_wp2_with fail;go_ret;exact⟨rfl,zst⟩
 subst hs0;go_wp2_with fail;go_loopw [12] (fun x10 wr=>∃(i:Nat) (W:Wd) (X1 X2:Ws),i<=500/\x10=.int .i64 (i:Int)/\I i W/\On4 wr w.heap.size W X1/\On4 wr w.heap.size W X2/\Yc ((more ((more (more (w.alloc (.cells #[.int .i64 p,.int .u64 q,.int .i64 C,.int .i64 R,.string s,.slice lo ln lc] 27)) J0 n0) J1 n1).alloc (.cells X1.cs 33)) J2 n2).alloc (.cells X2.cs 33)) wr) (fun x10 _=>500 - (intOf x10).toNat);case atStart=>exact⟨0,W0,_,_,by omega,rfl,(by simpa using H0.o),(O1.o.sT zst).less zsz,(O2.o.sT zst).less zsz,Fr.refl _ _⟩
 case round =>
  clear O1 O2 HN HM HA H0;obtain⟨i,W,⟨f1,x1,a1,l1,ca1,b1,m1,cb1,c1,k1,cc1,d1,j1,cd1⟩,⟨f2,x2,a2,l2,ca2,b2,m2,cb2,c2,k2,cc2,d2,j2,cd2⟩,hi,rfl,hIW,o1,o2,hs⟩:=hrel;obtain⟨hf,hl⟩:=HI.o i W hIW;obtain rfl:f1=(i:Int):=o1.fr.symm.trans hf;obtain rfl:f2=(i:Int):=o2.fr.symm.trans hf;have V1:=hid (o1.rd hl);have V2:=hid (o2.rd hl);have HW:=hid hIW;clear o1 o2 hIW hf hl;obtain⟨K,k,rfl⟩:=hs.more;clear hs;by_cases ha:(i:Int)<a;rotate_left
  ·go_wp2_with fail;go_ret;exact⟨rfl,zst⟩
  by_cases hin:i<500;rotate_left
  ·have hge:¬(i:Int)<500:=by omega
   go_wp2_with fail;go_ret;exact⟨rfl,zst⟩
  have hlt:(i:Int)<500:=by omega
  go_wp2_with fail;have hcl:(ofC L ((i:Int)+1)).length<=n:=by
   rw[(Ml L _).length_eq,<- HX.o.1];exact List.length_filter_le _ _
  refine(MP L ((i:Int)+1) xo n xcp (by omega) _ (HX.o.sT zst)).mono ?_;rintro e w5 ⟨v5,rfl,ox,h5⟩;obtain⟨xo5,xc5,rfl,_⟩:=ox.slice;obtain⟨K5,k5,rfl⟩:=h5.more;obtain⟨cs,ecs⟩:∃k,ofC L ((i:Int)+1)=k:=⟨_,rfl⟩;rw[ecs]at ox hcl⊢;have HX5:=hid (Zm ox (by omega));clear h5 ox ecs;go_wp2_with fail;refine(HP.o i W _ _ xo5 _ xc5 cs HW.o zst (V1.o.sT zst) (HX5.o.sT zst) hcl).mono ?_;rintro e w6 ⟨⟨f3,x3,a3,l3,ca3,b3,m3,cb3,c3,k3,cc3,d3,j3,cd3⟩,zo,zc0,rfl,o3,p3,h6⟩;obtain⟨K6,k6,rfl⟩:=h6.more;have O3:=hid o3;have P3:=hid p3;clear h6 o3 p3;go_wp2_with fail;refine(HD.o i W _ _ xo5 _ xc5 cs HW.o zst (V2.o.sT zst) (HX5.o.sT zst) hcl).mono ?_;rintro e w6 ⟨⟨f4,x4,a4,l4,ca4,b4,m4,cb4,c4,k4,cc4,d4,j4,cd4⟩,yo,yc,rfl,o4,p4,h6⟩;obtain⟨K7,k7,rfl⟩:=h6.more;have O4:=hid o4;have P4:=hid p4;clear h6 o4 p4;go_wp2_with fail;have HL:=HX0.o i W cs HW.o;refine zc (Nc (X W cs) _ _ _ ((O3.o.rd HL).sT zst) ((O4.o.rd HL).sT zst)) ?_;intro K8 k8
  go_wp2_with fail;refine zc (Yab (Y W cs) _ _ zo yo zc0 yc _ (P3.o.sT zst) (P4.o.sT zst)) ?_;intro K9 k9
  clear P3 P4 HX5 V1 V2 HL;obtain⟨se,ese⟩:∃k,S W cs=k:=⟨_,rfl⟩;rw[ese];by_cases hse:se=0;rotate_left
  ·clear O3 O4;go_wp2_with fail;go_ret;exact⟨rfl,zst⟩
  subst hse;have HI2:=hid (HSt.o i W cs HW.o ese);obtain⟨hf3,-⟩:=HI.o _ _ HI2.o;obtain rfl:f3=((i:Int)+1):=O3.o.fr.symm.trans (hf3.trans (by simp));obtain rfl:f4=((i:Int)+1):=O4.o.fr.symm.trans (hf3.trans (by simp));clear ese hf3 HP HD;go_wp2_with fail;go_roundw;case rel =>
   refine⟨i+1,X W cs,⟨(i:Int)+1,x3,a3,l3,ca3,b3,m3,cb3,c3,k3,cc3,d3,j3,cd3⟩,⟨(i:Int)+1,x4,a4,l4,ca4,b4,m4,cb4,c4,k4,cc4,d4,j4,cd4⟩,by omega,by go_num,HI2.o,?_,?_,zst⟩
   ·exact On4.go (F:=fun k=>k=w.heap.size+1+J0.size+J1.size\/k=w.heap.size+1+J0.size+J1.size+1+J2.size) O3.o zgo zlo zsz
   ·exact On4.go (F:=fun k=>k=w.heap.size+1+J0.size+J1.size\/k=w.heap.size+1+J0.size+J1.size+1+J2.size) O4.o zgo zlo zsz
  case measure=>first|(simp[intOf];done)|(simp[intOf];omega)
end Go.Proofs.YtcgmohldcokccaaGreatDoor
