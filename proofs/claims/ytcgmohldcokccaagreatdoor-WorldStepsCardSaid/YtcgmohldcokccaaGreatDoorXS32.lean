import Derived.Test.YtcgmohldcokccaaGreatDoorXS26
import Derived.Test.YtcgmohldcokccaaGreatDoorXS29
import Derived.Test.YtcgmohldcokccaaGreatDoorXS31
set_option linter.unusedVariables false
set_option maxHeartbeats 16000000
namespace Go.Proofs.YtcgmohldcokccaaGreatDoor
open Go.RowKit
open Pu Gp Ap Vp Np Za Ka Ja Ea Ha Hg Hi
set_option maxRecDepth 100000
theorem CZ(C R:Int)(s:ByteArray)(w:World):∃v,Zf C R s v:=by
 obtain⟨e,w',fr,⟨v,_,hv,_⟩,_⟩:=QB C R s w [];exact⟨v,hv⟩
theorem Tq(F:Cf)(v:Int)(hv:Zf F.C F.R F.s v)(x:World):Q13 x F v (stV F.C F.s v) (spV F.C F.s v) where
 chk u _:=(QB F.C F.R F.s u).mono fun e w' ⟨v',he,hv',hs⟩=>by
  rw[VV hv' hv]at he;exact⟨he,hs⟩
 sts u _:=(Cy F.C F.R F.s u).mono fun e w' ⟨a,v',he,hv',ho,hs⟩=>by
  rw[VV hv' hv]at ho;exact⟨a,he,ho,hs⟩
 sps u _:=(Cz F.C F.R F.s u).mono fun e w' ⟨a,v',he,hv',ho,hs⟩=>by
  rw[VV hv' hv]at ho;exact⟨a,he,ho,hs⟩
theorem Tr(F:Cf)(hz:F.s.size<=281474976710656)(st sp:List (Int × Int))(x:World)(ht:Tab x)(hd:DTab x):P13 x F ⟨Yg F.C F.R F.s,st,sp,F.q⟩ where
 act m v a b c u hu:=PI m v a b c u (ht.still hu)
 fire m ow pw no u hu:=OU m ow pw no u (ht.still hu)
 gli m u:=Pd m F.C F.R F.s hz u
 bod L ao n cap u h:=CY L ao n cap u h
 apt a b u:=Rw a b u
 fly s u:=OX s F.C F.R F.s hz u
 sho L S ao n cap so r scap u h1 h2:=CN L S ao n cap so r scap u h1 h2
 hur m h u:=OQ m h u
 dmg p u:=OS p u
 hit a b n out u:=MI a b n out u
 pic L Q T ao n cap po r pcap xo t tcap u h1 h2 h3 h4:=CI L Q T ao n cap po r pcap xo t tcap u h1 h2 h3 h4
 tak m k u:=Ro m k u
 gai s n u:=MD s n u
 spw f s no L ao n cap u hu h1 h2:=Rv F.q f s no L ao n cap u (hd.still hu) h1 h2
 res m x y u:=OR m x y u
theorem Tt(C:Nat)(s:ByteArray):∀n,(spP C s n).length=Zj s n
 | 0=>rfl
 | n+1=>by
  rw[spP,List.length_append,Tt C s n,Zj];split<;>simp_all
theorem Hf{C R:Int}{s:ByteArray}{v:Int}(h:Zf C R s v):(spV C s v).length<=16:=by
 unfold spV;split
 ·rename_i e;subst e;have hf:YJ C R s=true:=by
   rcases h with⟨_,h2⟩|⟨h1,_⟩|⟨h1,_⟩
   ·cases h2
   ·exact h1
   ·exact h1
  unfold YJ at hf;simp only[Bool.and_eq_true,decide_eq_true_eq]at hf;rw[Tt];exact hf.2.2
 ·simp
abbrev E0:Env:=⟨Yg 8 6 std3,[(6144,6144),(26624,6144),(6144,18432),(26624,18432)],[(14336,10240),(18432,10240)],7⟩
abbrev y0:Cm:=⟨1,1,1,7,9,0,0⟩
theorem Hh:stV 8 std3 0=[(6144,6144),(26624,6144),(6144,18432),(26624,18432)]:=by kernel_rfl
theorem Hj:spV 8 std3 0=[(14336,10240),(18432,10240)]:=by kernel_rfl
theorem Hk:mm (nwM E0.st 2) 1=⟨26624,6144,0,0,0,0,4,100,50,false,0,0,0⟩:=by kernel_rfl
theorem Hl:(frame E0 (nw0 E0 2) [y0]).ns=[⟨8,1,9⟩]:=by kernel_rfl
theorem Hm:(mm (frame E0 (nw0 E0 2) [y0]).w.ms 1).sd=9:=by kernel_rfl
theorem Hn:(frame E0 (nw0 E0 2) [y0]).w.ms.length=2:=by kernel_rfl
theorem Tu:(frame E0 (nw0 E0 2) [y0]).w.fr=1:=by kernel_rfl
theorem Jh:Zx 2 0 4 [0,2]:=by
 refine⟨by decide,by decide,rfl,by decide,by decide,by decide,rfl,fun i h1 h2=>?_⟩;obtain rfl:i=1:=by simp at h2;omega
 exact⟨by decide,by decide⟩
theorem DM:Rgt 2 y0:=⟨by decide,by decide,by decide,by kernel_rfl⟩
theorem Ho:Z8 2 1 [y0]:=fun i hi=>by
 obtain rfl:i=0:=by simp at hi;omega
 exact⟨⟨DM,rfl⟩,fun h=>absurd h (by omega)⟩
theorem Tv:Ha.Good 2 E0 (nw0 E0 2):=FB (by decide)
theorem Hp:Zz 2 E0 (nw0 E0 2):=⟨Tv,by decide,by decide⟩
theorem Hq:Zz 2 E0 (frame E0 (nw0 E0 2) [y0]).w:=by
 have h:=EW (n:=2) (by omega) Tv (l:=[y0]) (fun x hx=>by simp at hx;subst hx;exact DM);refine⟨h.1,?_⟩;rw[Tu];decide
theorem Hr{w:World}{g:Nat}{F:Cf}(h0:Cfb w g F)(p q C R:Int)(s:ByteArray)(lo:Option Addr)(n c:Nat):Cfb ((((((w.setCell ⟨g,0,none⟩ (.int .i64 p)).setCell ⟨g,1,none⟩ (.int .u64 q)).setCell ⟨g,2,none⟩ (.int .i64 C)).setCell ⟨g,3,none⟩ (.int .i64 R)).setCell ⟨g,4,none⟩ (.string s)).setCell ⟨g,5,none⟩ (.slice lo n c)) g ⟨p,q,C,R,s,.slice lo n c⟩:=by
 unfold Cfb at h0⊢;have h1:=heap_setCell_same _ g 0 _ _ (.int .i64 p) h0;have h2:=heap_setCell_same _ g 1 _ _ (.int .u64 q) h1;have h3:=heap_setCell_same _ g 2 _ _ (.int .i64 C) h2;have h4:=heap_setCell_same _ g 3 _ _ (.int .i64 R) h3;have h5:=heap_setCell_same _ g 4 _ _ (.string s) h4;have h6:=heap_setCell_same _ g 5 _ _ (.slice lo n c) h5;exact h6.trans (by kernel_rfl)
theorem Hs{a w:World}{g:Nat}(h:Fr (fun k=>k=g) a w)(v0 v1 v2 v3 v4 v5:Value):Fr (fun k=>k=g) a ((((((w.setCell ⟨g,0,none⟩ v0).setCell ⟨g,1,none⟩ v1).setCell ⟨g,2,none⟩ v2).setCell ⟨g,3,none⟩ v3).setCell ⟨g,4,none⟩ v4).setCell ⟨g,5,none⟩ v5):=
 (((((h.setCell _ _ (.inl rfl)).setCell _ _ (.inl rfl)).setCell _ _ (.inl rfl)).setCell _ _ (.inl rfl)).setCell _ _ (.inl rfl)).setCell _ _ (.inl rfl)
theorem Ht{w:World}{g:Nat}{p q C R:Int}{s:ByteArray}{lo:Option Addr}{n c:Nat}(h:Cfb w g ⟨p,q,C,R,s,.slice lo n c⟩):(loadVar 27 ⟨g,0,none⟩).run Tryz.prog w=.ok (.agg #[.int .i64 p,.int .u64 q,.int .i64 C,.int .i64 R,.string s,.slice lo n c]) w:=by
 obtain⟨c0,c1,c2,c3,c4,c5,cf⟩:=h.cells;dsimp only at c0 c1 c2 c3 c4 c5;clear h;go_simp
theorem Hu{fn:Func}{r:Tmp}{w:World}{g:Nat}{p q C R:Int}{s:ByteArray}{lo:Option Addr}{n c:Nat}(hb:Cfb w g ⟨p,q,C,R,s,.slice lo n c⟩)(h:fn.results=#[.cell r 27])(tmps:Array Value)(hp:tmps.getD r undef=.pointer (some ⟨g,0,none⟩)) :
  (results fn tmps).run Tryz.prog w=.ok (.agg #[.int .i64 p,.int .u64 q,.int .i64 C,.int .i64 R,.string s,.slice lo n c]) w:=by
 have hp':tmps[r]?.getD undef=.pointer (some ⟨g,0,none⟩):=by simpa using hp
 simp[results,h,hp',asAddr,Ht hb]
theorem Hv(w:World):Calls Tryz.prog 21 #[] w fun e w'=>∃gl,e=.returned (.agg #[.int .i64 2,.int .u64 7,.int .i64 8,.int .i64 6,.string std3,.slice (some ⟨gl,0,none⟩) 2 2])/\RdI w' (some ⟨gl,0,none⟩) 2 2 [0,2]/\Yc w w':=by
 have HSd:=hid IL;obtain⟨S,eS⟩:∃S,std3=S:=⟨_,rfl⟩;rw[eS]at HSd⊢;clear eS;have A0:=sA w (.cells #[.int .i64 0,.int .u64 0,.int .i64 0,.int .i64 0,.string ByteArray.empty,.slice none 0 0] 27);have p0:Cfb _ w.heap.size ⟨0,0,0,0,ByteArray.empty,.slice none 0 0⟩:=XB w ⟨0,0,0,0,ByteArray.empty,.slice none 0 0⟩;have HS0:=hid A0;have HP0:=hid p0;clear A0 p0;go_enter Tryz.func21,Tryz.ntmps21;go_wp2_with fail;refine(HSd.o _).mono ?_;rintro e w1 ⟨rfl,h1⟩;have A2:=sA w1 (.cells #[.int .i64 8,.int .i64 6,.string S] 24);have A3:=sA (w1.alloc (.cells #[.int .i64 8,.int .i64 6,.string S] 24)) (.cells #[.int .i64 0,.int .i64 2] 3);have a2:=Y9 w1 8 6 S;have hp:=((HP0.o.still h1).still A2).still A3;have HP3:=hid hp;have HS3:=hid (((HS0.o.trans h1).trans A2).trans A3);have HL3:=hid (Fs (w1.alloc (.cells #[.int .i64 8,.int .i64 6,.string S] 24)) 0 2);have HLT:=hid (show w.heap.size<w1.heap.size from Y7 (HP0.o.still h1));obtain⟨i0,i1,i2,jf⟩:=a2.cells;clear A2 A3 a2 h1;obtain⟨c0,c1,c2,c3,c4,c5,cf⟩:=hp.cells;clear hp;go_wp2_with fail;refine bodyPost_ret (Hu (Hr HP3.o 2 7 8 6 S _ 2 2) rfl _ rfl) rfl ⟨w1.heap.size+1,rfl,?_,Un HS3.o (Nat.le_refl _) _ _ _ _ _ _⟩;have h:=HL3.o;rw[size_alloc]at h;refine h.kept (Hs (Fr.refl _ _) _ _ _ _ _ _) (fun a ha _ e=>?_);cases ha;have e:w1.heap.size+1=w.heap.size:=e;have:=HLT.o;omega
abbrev nv(x:Nn):Value:=.agg (ncs x)
def Ji(x y:Nn):Bool:=(x.k == y.k) && ((x.a == y.a) && (x.b == y.b))
theorem Tw(x:Nn):Ji x x=true:=by unfold Ji;simp
theorem Jj(x:Nn)(w:World):(part 3 (ncs x) 0).run Tryz.prog w=.ok (.int .i64 x.k) w/\(part 3 (ncs x) 1).run Tryz.prog w=.ok (.int .i64 x.a) w/\(part 3 (ncs x) 2).run Tryz.prog w=.ok (.int .i64 x.b) w:=by
 refine⟨?_,?_,?_⟩<;>go_simp
theorem Tx(x y:Nn)(w:World):(Op.equalIn 10000 47 (nv x) (nv y)).run Tryz.prog w=.ok (Ji x y) w:=by
 have c0:=fun w=>(Jj x w).1;have d0:=fun w=>(Jj y w).1;have r0:=fun w=>ZD 9998 x.k y.k w;have c1:=fun w=>(Jj x w).2.1;have d1:=fun w=>(Jj y w).2.1;have r1:=fun w=>ZD 9998 x.a y.a w;have c2:=fun w=>(Jj x w).2.2;have d2:=fun w=>(Jj y w).2.2;have r2:=fun w=>ZD 9998 x.b y.b w;rw[run_equalIn_struct w 9999 _ _ _ (by kernel_rfl) (by kernel_rfl)];have e : (Tryz.prog.fieldsOf 47) = #[⟨ "Kind", 3, 0, false, "", "", 0⟩, ⟨ "A", 3, 1, false, "", "", 8⟩, ⟨ "B", 3, 2, false, "", "", 16⟩]:=by kernel_rfl
 rw[e];simp only[Op.eqFields,ne_eq,String.reduceEq,not_false_eq_true,if_true,Sem.run_bind,c0,c1,c2,d0,d1,d2,Result.andThen_ok,r0,r1,r2,Sem.run_ite,Sem.run_pure];unfold Ji;exact st (st (st1 _))
theorem Hw(x y:Nn)(w:World):(binOp .eql 47 (nv x) (nv y)).run Tryz.prog w=.ok (.bool (Ji x y)) w:=by
 rw[run_eql_struct,Tx];rfl
theorem Hy(x y:Nn)(w:World):(binOp .neq 47 (nv x) (nv y)).run Tryz.prog w=.ok (.bool (!Ji x y)) w:=by
 rw[run_neq_struct,Tx];rfl
theorem Hz(x:Nn)(w:World):(binOp .eql 47 (nv x) (nv x)).run Tryz.prog w=.ok (.bool true) w:=by
 rw[Hw,Tw]
theorem H6(x:Nn)(w:World):(binOp .neq 47 (nv x) (nv x)).run Tryz.prog w=.ok (.bool false) w:=by
 rw[Hy,Tw];rfl
theorem Ty(op:BinOp)(a b:Operand)(xs ys:Array Value)(w:World):(eqGuard op 47 a b (.agg xs) (.agg ys)).run Tryz.prog w=.ok () w:=run_eqGuard_agg w op _ a b xs ys (by kernel_rfl)
theorem H7:(frame E0 (nw0 E0 2) [y0]).w.cs.length=2:=by kernel_rfl
theorem H8:(frame E0 (nw0 E0 2) [y0]).w.hs.length=0:=by kernel_rfl
theorem H9:(frame E0 (nw0 E0 2) [y0]).w.ks.length=0:=by kernel_rfl
theorem Yaa:(frame E0 (nw0 E0 2) [y0]).w.nx=1:=by kernel_rfl
theorem owN{e:TypeId}{w:World}{B g n cap:Nat}{L:List Nn}(h:OwG KN e w B (.slice (some ⟨g,0,none⟩) n cap) L){i:Nat}(hi:i<L.length):w.cell? ⟨g,i*3,none⟩=some (.int .i64 (L.getD i zNn).k)/\w.cell? ⟨g,i*3+1,none⟩=some (.int .i64 (L.getD i zNn).a)/\w.cell? ⟨g,i*3+2,none⟩=some (.int .i64 (L.getD i zNn).b)/\∀o,w.frozen? ⟨g,o,none⟩=false:=
 ⟨h.get hi 0 _ rfl,h.get hi 1 _ rfl,h.get hi 2 _ rfl,h.frozen⟩
theorem Tz(w:World)(y:Cm):RdG KX (w.alloc (.cells (xcs y) 63)) (some ⟨w.heap.size,0,none⟩) 1 [y]:=by
 refine⟨rfl,by omega,.inr ⟨w.heap.size,0,rfl,fun i hi j u hj=>?_⟩⟩;obtain rfl:i=0:=by omega
 have hb:=heap_alloc_new w (.cells (xcs y) 63);rw[cell_of_row _ _ _ _ _ _ hb];have hj':(xcs y).toList[j]?=some u:=hj;rw[Array.getElem?_toList]at hj';simpa using hj'
theorem Kr(gl:Nat)(u:World):Q13 u ⟨2,7,8,6,std3,.slice (some ⟨gl,0,none⟩) 2 2⟩ 0 E0.st E0.sp:=by
 have h:=Tq ⟨2,7,8,6,std3,.slice (some ⟨gl,0,none⟩) 2 2⟩ 0 C5 u;dsimp only at h;rw[Hh,Hj]at h;exact h
theorem T6(gl:Nat)(u:World)(ht:Tab u)(hd:DTab u):P13 u ⟨2,7,8,6,std3,.slice (some ⟨gl,0,none⟩) 2 2⟩ E0:=Tr ⟨2,7,8,6,std3,.slice (some ⟨gl,0,none⟩) 2 2⟩ (show std3.size<=281474976710656 by decide +kernel) _ _ u ht hd
theorem Yab(gl:Nat)(u:World)(hl:RdI u (some ⟨gl,0,none⟩) 2 2 [0,2]):Calls Tryz.prog 16 #[.agg #[.int .i64 2,.int .u64 7,.int .i64 8,.int .i64 6,.string std3,.slice (some ⟨gl,0,none⟩) 2 2]] u fun e w'=>∃v,e=.returned (.tuple #[v,.int .i64 0])/\OwW w' u.heap.size v (nw0 E0 2)/\Yc u w':=
 PR 2 7 8 6 std3 (some ⟨gl,0,none⟩) 2 2 E0 [0,2] u 0 (Kr gl u) hl Jh
theorem Yac(gl:Nat)(u:World)(hl:RdI u (some ⟨gl,0,none⟩) 2 2 [0,2]):Ya 22 #[.agg #[.int .i64 2,.int .u64 7,.int .i64 8,.int .i64 6,.string std3,.slice (some ⟨gl,0,none⟩) 2 2]] u (.int .i64 0):=
 PQ 2 7 8 6 std3 (some ⟨gl,0,none⟩) 2 2 E0 [0,2] u 0 (Kr gl u) hl Jh
theorem Yad(gl:Nat)(u:World)(hl:RdI u (some ⟨gl,0,none⟩) 2 2 [0,2])(v:Value)(hv:RdW u v (frame E0 (nw0 E0 2) [y0]).w):Ya 23 #[.agg #[.int .i64 2,.int .u64 7,.int .i64 8,.int .i64 6,.string std3,.slice (some ⟨gl,0,none⟩) 2 2],v] u (.int .i64 0):=by
 have h:=PS 2 7 8 6 std3 (some ⟨gl,0,none⟩) 2 2 E0 [0,2] u 0 (Kr gl u) hl Jh _ v hv;rw[show Xs ((2:Nat):Int) E0 (frame E0 (nw0 E0 2) [y0]).w=0 from JX Hq]at h;exact h
theorem Yae{p v0:Int}{E:Env}{l:List Int}{W:Wd}{cs:List Cm}(hc:Zx p v0 E.st.length l)(hF:Zz p E W)(hm:W.fr≠1099511627776)(hO:Z8 p (W.fr+1) cs):stE p v0 E l W cs=0:=by
 unfold stE;rw[if_neg (not_not_intro hc),if_neg (not_not_intro hF),if_neg hm,if_neg (not_not_intro hO)]
theorem Yaf(gl gx:Nat)(u:World)(ht:Tab u)(hd:DTab u)(hl:RdI u (some ⟨gl,0,none⟩) 2 2 [0,2])(v:Value)(hv:RdW u v (nw0 E0 2))(hx:RdG KX u (some ⟨gx,0,none⟩) 1 [y0]):Calls Tryz.prog 9 #[.agg #[.int .i64 2,.int .u64 7,.int .i64 8,.int .i64 6,.string std3,.slice (some ⟨gl,0,none⟩) 2 2],v,.slice (some ⟨gx,0,none⟩) 1 1] u fun e w'=>F8 u w' E0 (nw0 E0 2) [y0] e:=
 (F9 2 7 8 6 std3 (some ⟨gl,0,none⟩) 2 2 E0 [0,2] u 0 (Kr gl u) (T6 gl u ht hd) hl Jh (by decide) (nw0 E0 2) v hv (some ⟨gx,0,none⟩) 1 1 [y0] hx (by omega)).mono fun e w' h=>h.1 (Yae Jh Hp (by decide) Ho)
theorem Yag(gl gx:Nat)(u:World)(ht:Tab u)(hd:DTab u)(hl:RdI u (some ⟨gl,0,none⟩) 2 2 [0,2])(hx:RdG KX u (some ⟨gx,0,none⟩) 1 [y0]):Calls Tryz.prog 19 #[.agg #[.int .i64 2,.int .u64 7,.int .i64 8,.int .i64 6,.string std3,.slice (some ⟨gl,0,none⟩) 2 2],.int .i64 1,.slice (some ⟨gx,0,none⟩) 1 1] u fun e w'=>∃v,e=.returned (.tuple #[v,.int .i64 0])/\OwW w' u.heap.size v (frame E0 (nw0 E0 2) [y0]).w/\Yc u w':=
 PU 2 7 8 6 std3 (some ⟨gl,0,none⟩) 2 2 E0 [0,2] u 0 (Kr gl u) (T6 gl u ht hd) hl Jh (by decide) 1 1 7 9 0 0 DM gx 1 hx
theorem Yah(w:World)(ht:Tab w)(hd:DTab w):Ya 6 #[] w (.bool true):=by
 have HSes:=hid Hv;have HNew:=hid Yab;have HCfg:=hid Yac;have HChk:=hid Yad;have HStp:=hid Yaf;have HRef:=hid Yag;obtain⟨S,eS⟩:∃S,std3=S:=⟨_,rfl⟩;rw[eS]at HSes;simp only[eS]at HNew HCfg HChk HStp HRef;clear eS;have HT:=hid ht;have HDt:=hid hd;clear ht hd;have G1:=U6;have G2:=fun w=>Ao (x:=26624) (y:=6144) (z:=26624) (u:=6144) ⟨rfl,rfl⟩ w;have G3:=Ty;have G4:=fun w=>Hz ⟨8,1,9⟩ w;go_enter Tryz.func6,Tryz.ntmps6;go_wp2_with fail;refine(HSes.o _).mono ?_;rintro e w1 ⟨gl,rfl,hl,h1⟩;have A1:=sA w1 (.cells #[.int .i64 2,.int .u64 7,.int .i64 8,.int .i64 6,.string S,.slice (some ⟨gl,0,none⟩) 2 2] 27);have HP1:Hid (Cfb (w1.alloc (.cells #[.int .i64 2,.int .u64 7,.int .i64 8,.int .i64 6,.string S,.slice (some ⟨gl,0,none⟩) 2 2] 27)) w1.heap.size ⟨2,7,8,6,S,.slice (some ⟨gl,0,none⟩) 2 2⟩):=hid (XB w1 ⟨2,7,8,6,S,.slice (some ⟨gl,0,none⟩) 2 2⟩);have HL1:=hid (hl.still A1);have HS1:Hid (Yc w (w1.alloc (.cells #[.int .i64 2,.int .u64 7,.int .i64 8,.int .i64 6,.string S,.slice (some ⟨gl,0,none⟩) 2 2] 27))):=hid (h1.trans A1);clear hl h1 A1;obtain⟨W1,eW1⟩:∃X,w1.alloc (.cells #[.int .i64 2,.int .u64 7,.int .i64 8,.int .i64 6,.string S,.slice (some ⟨gl,0,none⟩) 2 2] 27)=X:=⟨_,rfl⟩;rw[eW1]at HP1 HL1 HS1;obtain⟨b1,eb1⟩:∃k,w1.heap.size=k:=⟨_,rfl⟩;rw[eb1]at HP1;obtain⟨c0,c1,c2,c3,c4,c5,cf⟩:=HP1.o.cells;dsimp only at c0 c1 c2 c3 c4 c5;go_wp2_with fail;refine(HNew.o gl W1 HL1.o).mono ?_;rintro e w2 ⟨u,rfl,hW,h2⟩;have hV:=OwW.rd hW (by decide) (by decide) (by decide) (by decide);obtain⟨a,b,c,d,rfl,q1,q2,q3,q4⟩:=hW;obtain⟨gm,cm1,rfl,_,_⟩:=q1.head (by decide);obtain⟨xb,yb,rfl,_⟩:=q2.slice;obtain⟨xc,yc,rfl,_⟩:=q3.slice;obtain⟨xd,yd,rfl,_⟩:=q4.slice;simp only[show(nw0 E0 2).fr=0 from rfl,show(nw0 E0 2).nx=1 from rfl,show(nw0 E0 2).ms.length=2 from rfl,show(nw0 E0 2).cs.length=2 from rfl,show(nw0 E0 2).hs.length=0 from rfl,show(nw0 E0 2).ks.length=0 from rfl]at q1 hV⊢;have A2:=sA w2 (.cells (Ye 0 1 (.slice (some ⟨gm,0,none⟩) 2 cm1) (.slice xb 2 yb) (.slice xc 0 yc) (.slice xd 0 yd)) 33);have hs2:=h2.trans A2;have HP2:=hid (HP1.o.still hs2);have HL2:=hid (HL1.o.still hs2);have HS2:=hid (HS1.o.trans hs2);have HV2:=hid (hV.still A2);have HM2:=hid (q1.still A2);have hN2:Wdb (w2.alloc (.cells (Ye 0 1 (.slice (some ⟨gm,0,none⟩) 2 cm1) (.slice xb 2 yb) (.slice xc 0 yc) (.slice xd 0 yd)) 33)) w2.heap.size 0 1 (.slice (some ⟨gm,0,none⟩) 2 cm1) (.slice xb 2 yb) (.slice xc 0 yc) (.slice xd 0 yd):=Zl w2 0 1 _ _ _ _;have HN2:=hid hN2;clear hV q1 q2 q3 q4 A2 h2 hs2 hN2 c0 c1 c2 c3 c4 c5 cf eW1 eb1 HP1 HL1 HS1;obtain⟨W2,eW2⟩:∃X,w2.alloc (.cells (Ye 0 1 (.slice (some ⟨gm,0,none⟩) 2 cm1) (.slice xb 2 yb) (.slice xc 0 yc) (.slice xd 0 yd)) 33)=X:=⟨_,rfl⟩;rw[eW2]at HP2 HL2 HS2 HV2 HM2 HN2;obtain⟨b2,eb2⟩:∃k,w2.heap.size=k:=⟨_,rfl⟩;rw[eb2]at HN2;obtain⟨c0,c1,c2,c3,c4,c5,cf⟩:=HP2.o.cells;dsimp only at c0 c1 c2 c3 c4 c5;obtain⟨d0,d1,d2,d3,d4,d5,df⟩:=HN2.o.cells;obtain⟨m0,m1,m2,m3,m4,m5,m6,m7,m8,m9,m10,m11,m12,mf⟩:=owM HM2.o (i:=1) (by decide);rw[show mm (nw0 E0 2).ms 1=⟨26624,6144,0,0,0,0,4,100,50,false,0,0,0⟩from Hk]at m0 m1 m2 m3 m4 m5 m6 m7 m8 m9 m10 m11 m12;simp only[Nat.one_mul,Nat.reduceAdd]at m0 m1 m2 m3 m4 m5 m6 m7 m8 m9 m10 m11 m12;have A3:=sA W2 (.cells (xcs y0) 63);have HP3:=hid (HP2.o.still A3);have HL3:=hid (HL2.o.still A3);have HS3:=hid (HS2.o.trans A3);have HV3:=hid (HV2.o.still A3);have HX3:=hid (Tz W2 y0);clear A3;go_wp2_with fail;refine(HStp.o gl _ _ (HT.o.still HS3.o) (HDt.o.still HS3.o) HL3.o _ HV3.o HX3.o).mono ?_;rintro e w4 ⟨⟨u4,nv4,rfl,hW4,hn4⟩,h4⟩;have hns:=Hl;have hsd:=Hm;have hml:=Hn;have hfr:=Tu;have hcs:=H7;have hhs:=H8;have hks:=H9;have hnx:=Yaa;obtain⟨G,eG⟩:∃G,frame E0 (nw0 E0 2) [y0]=G:=⟨_,rfl⟩;rw[eG]at hns hsd hml hfr hcs hhs hks hnx hW4 hn4;simp only[eG]at HChk HRef;clear eG;have hV4:=OwW.rd hW4 (by omega) (by omega) (by omega) (by omega);obtain⟨a,b,c,d,rfl,q1,q2,q3,q4⟩:=hW4;obtain⟨gm4,cm4,rfl,_,_⟩:=q1.head (by omega);obtain⟨xb4,yb4,rfl,_⟩:=q2.slice;obtain⟨xc4,yc4,rfl,_⟩:=q3.slice;obtain⟨xd4,yd4,rfl,_⟩:=q4.slice;rw[hns]at hn4;obtain⟨gn,cn,rfl,_,_⟩:=hn4.head (by decide);simp only[hfr,hnx,hml,hcs,hhs,hks,List.length_cons,List.length_nil,Nat.zero_add]at q1 hV4 hn4⊢;have A4:=sA w4 (.cells (Ye 1 1 (.slice (some ⟨gm4,0,none⟩) 2 cm4) (.slice xb4 2 yb4) (.slice xc4 0 yc4) (.slice xd4 0 yd4)) 33);have hs4:=h4.trans A4;have HP4:=hid (HP3.o.still hs4);have HL4:=hid (HL3.o.still hs4);have HS4:=hid (HS3.o.trans hs4);have HV4:=hid (hV4.still A4);have HM4:=hid (q1.still A4);have HNn4:=hid (hn4.still A4);have hN4:Wdb (w4.alloc (.cells (Ye 1 1 (.slice (some ⟨gm4,0,none⟩) 2 cm4) (.slice xb4 2 yb4) (.slice xc4 0 yc4) (.slice xd4 0 yd4)) 33)) w4.heap.size 1 1 (.slice (some ⟨gm4,0,none⟩) 2 cm4) (.slice xb4 2 yb4) (.slice xc4 0 yc4) (.slice xd4 0 yd4):=Zl w4 1 1 _ _ _ _;have HN4:=hid hN4;have HSd:=hid hsd;have HMl:=hid hml;have HLs:=hid (And.intro hcs (And.intro hhs (And.intro hks (And.intro hfr hnx))));clear hV4 q1 q2 q3 q4 hn4 A4 h4 hs4 hN4 c0 c1 c2 c3 c4 c5 cf d0 d1 d2 d3 d4 d5 df m0 m1 m2 m3 m4 m5 m6 m7 m8 m9 m10 m11 m12 mf eW2 eb2 HP3 HL3 HS3 HV3 HX3 HP2 HL2 HS2 HV2 HM2 HN2 hns hsd hml hfr hcs hhs hks hnx;obtain⟨W4,eW4⟩:∃X,w4.alloc (.cells (Ye 1 1 (.slice (some ⟨gm4,0,none⟩) 2 cm4) (.slice xb4 2 yb4) (.slice xc4 0 yc4) (.slice xd4 0 yd4)) 33)=X:=⟨_,rfl⟩;rw[eW4]at HP4 HL4 HS4 HV4 HM4 HNn4 HN4;obtain⟨b4,eb4⟩:∃k,w4.heap.size=k:=⟨_,rfl⟩;rw[eb4]at HN4;obtain⟨c0,c1,c2,c3,c4,c5,cf⟩:=HP4.o.cells;dsimp only at c0 c1 c2 c3 c4 c5;obtain⟨d0,d1,d2,d3,d4,d5,df⟩:=HN4.o.cells;obtain⟨m0,m1,m2,m3,m4,m5,m6,m7,m8,m9,m10,m11,m12,mf⟩:=owM HM4.o (i:=1) (by rw[HMl.o];omega);simp only[Nat.one_mul,Nat.reduceAdd,HSd.o]at m0 m1 m2 m3 m4 m5 m6 m7 m8 m9 m10 m11 m12;have A5:=sA W4 (.cells (xcs y0) 63);have HP5:=hid (HP4.o.still A5);have HL5:=hid (HL4.o.still A5);have HS5:=hid (HS4.o.trans A5);have HV5:=hid (HV4.o.still A5);have HX5:=hid (Tz W4 y0);have HN5:=hid (HN4.o.still A5);have HM5:=hid (HNn4.o.still A5);clear A5;go_wp2_with fail;refine(HRef.o gl _ _ (HT.o.still HS5.o) (HDt.o.still HS5.o) HL5.o HX5.o).mono ?_;rintro e w6 ⟨u6,rfl,hW6,h6⟩;have hV6:=OwW.rd hW6 (by rw[HMl.o];omega) (by rw[HLs.o.1];omega) (by rw[HLs.o.2.1];omega) (by rw[HLs.o.2.2.1];omega);obtain⟨a,b,c,d,rfl,q1,q2,q3,q4⟩:=hW6;obtain⟨gm6,cm6,rfl,_,_⟩:=q1.head (by rw[HMl.o];omega);obtain⟨xb6,yb6,rfl,_⟩:=q2.slice;obtain⟨xc6,yc6,rfl,_⟩:=q3.slice;obtain⟨xd6,yd6,rfl,_⟩:=q4.slice;simp only[HMl.o,HLs.o.1,HLs.o.2.1,HLs.o.2.2.1,HLs.o.2.2.2.1,HLs.o.2.2.2.2]at hV6⊢;have A6:=sA w6 (.cells (Ye 1 1 (.slice (some ⟨gm6,0,none⟩) 2 cm6) (.slice xb6 2 yb6) (.slice xc6 0 yc6) (.slice xd6 0 yd6)) 33);have hs6:=h6.trans A6;have HP6:=hid (HP5.o.still hs6);have HL6:=hid (HL5.o.still hs6);have HS6:=hid (HS5.o.trans hs6);have HVa:=hid (HV5.o.still hs6);have HVb:=hid (hV6.still A6);have HN6:=hid (HN5.o.still hs6);have HM6:=hid (HM5.o.still hs6);have hN6:Wdb (w6.alloc (.cells (Ye 1 1 (.slice (some ⟨gm6,0,none⟩) 2 cm6) (.slice xb6 2 yb6) (.slice xc6 0 yc6) (.slice xd6 0 yd6)) 33)) w6.heap.size 1 1 (.slice (some ⟨gm6,0,none⟩) 2 cm6) (.slice xb6 2 yb6) (.slice xc6 0 yc6) (.slice xd6 0 yd6):=Zl w6 1 1 _ _ _ _;have HK6:=hid hN6;clear hV6 q1 q2 q3 q4 A6 h6 hs6 hN6 c0 c1 c2 c3 c4 c5 cf d0 d1 d2 d3 d4 d5 df m0 m1 m2 m3 m4 m5 m6 m7 m8 m9 m10 m11 m12 mf eW4 eb4 HP5 HL5 HS5 HV5 HX5 HN5 HM5 HP4 HL4 HS4 HV4 HM4 HNn4 HN4;obtain⟨W6,eW6⟩:∃X,w6.alloc (.cells (Ye 1 1 (.slice (some ⟨gm6,0,none⟩) 2 cm6) (.slice xb6 2 yb6) (.slice xc6 0 yc6) (.slice xd6 0 yd6)) 33)=X:=⟨_,rfl⟩;rw[eW6]at HP6 HL6 HS6 HVa HVb HN6 HM6 HK6;obtain⟨b6,eb6⟩:∃k,w6.heap.size=k:=⟨_,rfl⟩;rw[eb6]at HK6;obtain⟨d0,d1,d2,d3,d4,d5,df⟩:=HN6.o.cells;obtain⟨f0,f1,f2,f3,f4,f5,ff⟩:=HK6.o.cells;go_wp2_with fail;refine(Qi G.w _ _ W6 HVa.o HVb.o).mono ?_;rintro e w7 ⟨rfl,h7⟩;have HP7:=hid (HP6.o.still h7);have HL7:=hid (HL6.o.still h7);have HS7:=hid (HS6.o.trans h7);have HV7:=hid (HVa.o.still h7);have HN7:=hid (HN6.o.still h7);have HM7:=hid (HM6.o.still h7);clear h7 d0 d1 d2 d3 d4 d5 df f0 f1 f2 f3 f4 f5 ff eW6 eb6 HP6 HL6 HS6 HVa HVb HN6 HM6 HK6;obtain⟨c0,c1,c2,c3,c4,c5,cf⟩:=HP7.o.cells;dsimp only at c0 c1 c2 c3 c4 c5;go_wp2_with fail;refine(HCfg.o gl w7 HL7.o).mono ?_;rintro e w8 ⟨rfl,h8⟩;have HP8:=hid (HP7.o.still h8);have HL8:=hid (HL7.o.still h8);have HS8:=hid (HS7.o.trans h8);have HV8:=hid (HV7.o.still h8);have HN8:=hid (HN7.o.still h8);have HM8:=hid (HM7.o.still h8);clear h8 c0 c1 c2 c3 c4 c5 cf HP7 HL7 HS7 HV7 HN7 HM7;obtain⟨c0,c1,c2,c3,c4,c5,cf⟩:=HP8.o.cells;dsimp only at c0 c1 c2 c3 c4 c5;obtain⟨d0,d1,d2,d3,d4,d5,df⟩:=HN8.o.cells;go_wp2_with fail;refine(HChk.o gl w8 HL8.o _ HV8.o).mono ?_;rintro e w9 ⟨rfl,h9⟩;have HS9:=hid (HS8.o.trans h9);obtain⟨n0,n1,n2,nf⟩:=owN (HM8.o.still h9) (i:=0) (by decide);simp only[Nat.zero_mul,Nat.zero_add,List.getD_cons_zero]at n0 n1 n2;clear h9 c0 c1 c2 c3 c4 c5 cf d0 d1 d2 d3 d4 d5 df HP8 HL8 HS8 HV8 HN8 HM8;go_wp2_with fail;go_ret;exact⟨rfl,HS9.o⟩
attribute [local go_sem] zr Y8
theorem T7{α:Type}{K:Kd α}{e:TypeId}{w:World}{B:Nat}{v:Value}{L:List α}(h:OwG K e w B v L):L.length<=9223372036854775807:=by
 rcases h.2 with⟨_,hn⟩|⟨g,cap,cur,_,_,_,hn,hm,_⟩
 ·omega
 ·unfold maxLen at hm;omega
theorem T8{w:World}{B g n cap:Nat}{L:List Nn}{x:Nn}(h:OwG KN 47 w B (.slice (some ⟨g,0,none⟩) n cap) L){i:Nat}(hi:i<L.length)(hx:L.getD i zNn=x):(∀z:Aft w,z.u.cell? ⟨g,i*3,none⟩=some (.int .i64 x.k))/\(∀z:Aft w,z.u.cell? ⟨g,i*3+1,none⟩=some (.int .i64 x.a))/\∀z:Aft w,z.u.cell? ⟨g,i*3+2,none⟩=some (.int .i64 x.b):=by
 subst hx;exact⟨kC (h.get hi 0 _ rfl),kC (h.get hi 1 _ rfl),kC (h.get hi 2 _ rfl)⟩
theorem T9(L:List Nn)(B B':Nat)(ao bo:Option Addr)(ca cb:Nat)(w:World)(ha:OwG KN 47 w B (.slice ao L.length ca) L)(hb:OwG KN 47 w B' (.slice bo L.length cb) L):Ya 12 #[.slice ao L.length ca,.slice bo L.length cb] w (.bool true):=by
 have HR:=hid (And.intro ha hb);have hm:=T7 ha;have G:=Ty;clear ha hb;obtain⟨n,en⟩:∃n,L.length=n:=⟨_,rfl⟩;have HN:=hid en;rw[en]at HR hm⊢;clear en;unfold Ya;go_in;go_wp2_with fail
 go_loopw [5] (fun u wr=>∃i:Nat,i<=n/\u=.int .i64 (i:Int)/\Yc w wr) (fun u _=>n-(intOf u).toNat);case atStart=>exact⟨0,by omega,rfl,Fr.refl _ _⟩
 case round =>
  obtain⟨i,hi,rfl,hs⟩:=hrel;have HS:=hid hs;by_cases hlt:i<n
  ·have hlt':(i:Int)<(n:Int):=by omega
   have r0:=HR.o.1.still hs;have r1:=HR.o.2.still hs;obtain⟨A,c,e1,-,-⟩:=r0.head (by rw[HN.o];omega);obtain⟨D,d,e2,-,-⟩:=r1.head (by rw[HN.o];omega);injection e1 with e1;subst e1
   injection e2 with e2;subst e2
   obtain⟨x,ex⟩:∃x,L.getD i zNn=x:=⟨_,rfl⟩;have E1:=H6 x;obtain⟨y0,y1,y2⟩:=T8 r0 (by rw[HN.o];exact hlt) ex;obtain⟨x0,x1,x2⟩:=T8 r1 (by rw[HN.o];exact hlt) ex;have hne:=Aft.here wr;clear r0 r1 hs ex;go_wp2_with fail;refine Yk (by kernel_rfl) (by kernel_rfl) ?_;repeat(go_big_quiet_step (fail))
   refine wpQuiet_nil ?_;intro w2 h2;have HS2:=hid (HS.o.trans h2);clear h2 hne E1 y0 x0 y1 x1 y2 x2;go_wp2_with fail;go_roundw;case rel=>exact⟨i+1,by omega,by go_num,HS2.o⟩
   case measure=>simp[intOf];omega
  ·have hge:¬(i:Int)<(n:Int):=by omega
   go_wp2_with fail;go_ret;exact⟨rfl,HS.o⟩
structure Ws where
 fr:Int
 nx:Int
 a:Option Addr
 l1:Nat
 ca:Nat
 b:Option Addr
 l2:Nat
 cb:Nat
 c:Option Addr
 l3:Nat
 cc:Nat
 d:Option Addr
 l4:Nat
 cd:Nat
abbrev Ws.cs(X:Ws):Array Value:=Ye X.fr X.nx (.slice X.a X.l1 X.ca) (.slice X.b X.l2 X.cb) (.slice X.c X.l3 X.cc) (.slice X.d X.l4 X.cd)
structure On4 (w:World) (B:Nat) (W:Wd) (X:Ws):Prop where
 fr:W.fr=X.fr
 nx:W.nx=X.nx
 o1:OwG KM 59 w B (.slice X.a X.l1 X.ca) W.ms
 o2:OwG KC 67 w B (.slice X.b X.l2 X.cb) W.cs
 o3:OwG KS 69 w B (.slice X.c X.l3 X.cc) W.hs
 o4:OwG KQ 71 w B (.slice X.d X.l4 X.cd) W.ks
variable {w w' a b c d:World} {B B' y z:Nat} {W:Wd} {X:Ws}
theorem On4.still(h:On4 w B W X)(hs:Yc w w'):On4 w' B W X:=⟨h.1,h.2,h.3.still hs,h.4.still hs,h.5.still hs,h.6.still hs⟩
def FZ(F:Nat->Prop)(a b:World):Prop:=Fr F a b/\a.heap.size=b.heap.size
variable {F:Nat->Prop}
theorem FZ.refl(a:World):FZ F a a:=⟨Fr.refl _ _,rfl⟩
theorem FZ.fr(h:FZ F a b):Fr F a b:=h.1
theorem FZ.at(h:FZ F a b)(hz:F a.heap.size)(o p:Obj):FZ F (a.alloc o) (b.alloc p):=by
 obtain⟨⟨h1,h2,h3,h4,h5⟩,h6⟩:=h;refine⟨⟨h1,h2,h3,by simp;omega,fun k hk hn=>?_⟩,by simp[h6]⟩;have hlt:k<a.heap.size:=by
  have:k<a.heap.size+1:=by simpa using hk
  have:k≠a.heap.size:=fun e=>hn (e ▸ hz);omega
 rw[Xd b p k (by omega),Xd a o k hlt];exact h5 k hlt hn
theorem FZ.alloc(h:FZ F a b)(o:Obj):FZ F (a.alloc o) (b.alloc o):=by
 obtain⟨⟨h1,h2,h3,h4,h5⟩,h6⟩:=h;refine⟨⟨h1,h2,h3,by simp;omega,fun k hk hn=>?_⟩,by simp[h6]⟩;by_cases hlt:k<a.heap.size
 ·rw[Xd b o k (by omega),Xd a o k hlt];exact h5 k hlt hn
 ·have:k<a.heap.size+1:=by simpa using hk
  rw[XR b o k (by omega),XR a o k (by omega)]
theorem FZ.more(h:FZ F a b)(J:Array Obj)(n:Nat):FZ F (more a J n) (more b J n):=by
 obtain⟨⟨h1,h2,h3,h4,h5⟩,h6⟩:=h;refine⟨⟨h1,h2,h3,by rw[Xz,Xz];omega,fun k hk hn=>?_⟩,by rw[Xz,Xz,h6]⟩;by_cases hlt:k<a.heap.size
 ·rw[VP k (by omega),VP k hlt];exact h5 k hlt hn
 ·unfold Go.Proofs.YtcgmohldcokccaaGreatDoor.more;show(b.heap ++ J)[k]?=(a.heap ++ J)[k]?;rw[Array.getElem?_append_right (by omega),Array.getElem?_append_right (by omega),h6]
theorem zgo{p:Prop}(h:p:=by
  (repeat(first|with_reducible refine FZ.fr (FZ.more ?_ _ _)|with_reducible refine WK ?_ _ _|with_reducible refine Fr.drew ?_|with_reducible refine Fr.alloc ?_ _))
  (repeat(first|with_reducible exact FZ.refl _|with_reducible refine FZ.more ?_ _ _|with_reducible refine FZ.alloc ?_ _|(with_reducible refine FZ.at ?_ ?_ _ _;rotate_left;(first|exact Or.inl zsz|exact Or.inr zsz|exact zsz))))):p:=h
theorem On4.go(h:On4 a B W X)(hs:Fr F a d)(hF:∀k,F k->k<B)(hB:B' <= B):On4 d B' W X:=⟨h.1,h.2,(h.3.keepB hs hF).less hB,(h.4.keepB hs hF).less hB,(h.5.keepB hs hF).less hB,(h.6.keepB hs hF).less hB⟩
abbrev DN(W:Wd):Prop:=W.ms.length<=281474976710656/\W.cs.length<=281474976710656/\W.hs.length<=281474976710656/\W.ks.length<=281474976710656
theorem On4.rd(h:On4 w B W X)(hl:DN W):RdW w (.agg X.cs) W:=by
 obtain⟨h0,h5,h1,h2,h3,h4⟩:=h;unfold Ws.cs;rw[<- h0,<- h5];exact OwW.rd ⟨_,_,_,_,rfl,h1,h2,h3,h4⟩ hl.1 hl.2.1 hl.2.2.1 hl.2.2.2
theorem Yai{u:Value}(h:OwW w B u W):∃X:Ws,u=.agg X.cs/\On4 w B W X:=by
 obtain⟨a,b,c,d,rfl,q1,q2,q3,q4⟩:=h;obtain⟨za,ca,rfl,_⟩:=q1.slice;obtain⟨zb,cb,rfl,_⟩:=q2.slice;obtain⟨zc,cc,rfl,_⟩:=q3.slice;obtain⟨zd,cd,rfl,_⟩:=q4.slice;exact⟨⟨_,_,za,_,ca,zb,_,cb,zc,_,cc,zd,_,cd⟩,rfl,rfl,rfl,q1,q2,q3,q4⟩
def oWd:Wd:=⟨0,[],[],[],[],0⟩
theorem Yaj(w:World)(B:Nat):On4 w B oWd ⟨0,0,none,0,0,none,0,0,none,0,0,none,0,0⟩:=⟨rfl,rfl,OwG.nil w B,OwG.nil w B,OwG.nil w B,OwG.nil w B⟩
def StS(u w':World)(W:Wd)(ns:List Nn)(se:Int)(e:Ending):Prop:=∃(X:Ws) (zo:Option Addr) (zc:Nat),e=.returned (.tuple #[.agg X.cs,.slice zo ns.length zc,.int .i64 se])/\On4 w' u.heap.size W X/\OwG KN 47 w' u.heap.size (.slice zo ns.length zc) ns/\Yc u w'
theorem DO{u w':World}{E:Env}{W:Wd}{cs:List Cm}{se:Int}{e:Ending}(h:StQ u w' E W cs se e):StS u w' (if se=0 then(frame E W cs).w else oWd) (if se=0 then(frame E W cs).ns else []) se e:=by
 by_cases h0:se=0
 ·obtain⟨⟨x,nv,he,hx,hn⟩,hs⟩:=h.1 h0;obtain⟨X,rfl,ho⟩:=Yai hx;obtain⟨zn,cn,rfl,_⟩:=hn.slice;rw[if_pos h0,if_pos h0];exact⟨X,zn,cn,by rw[he,h0],ho,hn,hs⟩
 ·obtain⟨he,hs⟩:=h.2 h0;rw[if_neg h0,if_neg h0];exact⟨_,none,0,he,Yaj _ _,OwG.nil _ _,hs⟩
end Go.Proofs.YtcgmohldcokccaaGreatDoor
namespace Go.Proofs.YtcgmohldcokccaaGreatDoor
open Go.RowKit
open Pu Gp Ap Vp Np Za Ka Ja Ea Ha
set_option maxRecDepth 100000
attribute [local go_sem] zr Y8
def m7:Mv:=⟨0,0,0,0,0,0,0,0,0,false,0,-7,0⟩
def c7:Scr:=⟨0,-7,0,0⟩
def s7:Sh:=⟨-7,0,0,0,0,0,0,0⟩
def p7:Pk:=⟨-7,0,0⟩
theorem Jk{α:Type}{K:Kd α}{e:TypeId}{w:World}{B n cap g:Nat}{L:List α}(h:OwG K e w B (.slice (some ⟨g,0,none⟩) (n+1) cap) L):n<=cap:=by
 rcases h.2 with⟨hv,_⟩|⟨g',cap',cur,hv,hb,hg,hn,hm,hs,ht⟩
 ·cases hv
 ·injection hv with _ h1 h2;omega
theorem QJ{B:Nat}{ts:List TypeId}{x:World}{J:Array Obj}{n:Nat}{o:Obj}{w':World}(h:FrT B ts ((more x J n).alloc o) w')(hB:x.heap.size<=B):∃J n,w'=more x J n:=(h.old (still_more.trans (sA _ _)) hB).more
theorem Yak(W:Wd)(fr nx:Int)(xa xb xc xd:Option Addr)(k1 k2 k3 k4 ya yb yc yd:Nat)(w:World)(h1:RdG KM w xa k1 W.ms)(h2:RdG KC w xb k2 W.cs)(h3:RdG KS w xc k3 W.hs)(h4:RdG KQ w xd k4 W.ks)(hb:(k1+1)*104<=140737488355328/\(k2+1)*32<=140737488355328/\(k3+1)*64<=140737488355328/\(k4+1)*24<=140737488355328) :
    Calls Tryz.prog 7 #[.agg (Ye fr nx (.slice xa k1 ya) (.slice xb k2 yb) (.slice xc k3 yc) (.slice xd k4 yd))] w fun e w'=>∃g0 c0 g1 c1 g2 c2 g3 c3,e=.returned (.agg (Ye fr nx (.slice (some ⟨g0,0,none⟩) k1 c0) (.slice (some ⟨g1,0,none⟩) k2 c1) (.slice (some ⟨g2,0,none⟩) k3 c2) (.slice (some ⟨g3,0,none⟩) k4 c3)))/\OwG KM 59 w' w.heap.size (.slice (some ⟨g0,0,none⟩) (k1+1) c0) (W.ms ++ [m7])/\OwG KC 67 w' w.heap.size (.slice (some ⟨g1,0,none⟩) (k2+1) c1) (W.cs ++ [c7])/\OwG KS 69 w' w.heap.size (.slice (some ⟨g2,0,none⟩) (k3+1) c2) (W.hs ++ [s7])/\OwG KQ 71 w' w.heap.size (.slice (some ⟨g3,0,none⟩) (k4+1) c3) (W.ks ++ [p7])/\Yc w w':=by
  have EL:=hid (And.intro h1.1 (And.intro h2.1 (And.intro h3.1 h4.1)));have HR:=hid (And.intro h1 (And.intro h2 (And.intro h3 h4)));have HB:=hid hb;clear h1 h2 h3 h4 hb;go_in
  go_wp2_with (first
    | (at_builtin
       refine Vj KM _ rfl _ _ 28 rfl Tryz.underlying28 104 JR _ _ _ W.ms rfl rfl (HR.o.1.still zst) (by have:=HB.o;omega) ?_;intro v' u0 ho h1;obtain⟨ao0,cp0,rfl,_⟩:=ho.slice;have A0:=hid (ho.less (B':=w.heap.size+1+1) zsz);obtain⟨J0,n0,rfl⟩:=(h1).more;clear ho h1)
    | (at_builtin
       refine Zw KM _ rfl _ _ 28 rfl Tryz.underlying28 104 JR (w.heap.size+1+1) _ _ W.ms m7 rfl rfl (A0.o.still zst) zbk (by have:=HB.o;have:=EL.o;omega) (by have:=HB.o;have:=EL.o;omega) zsz ?_;intro v' v0 ho hf;have hT:=(A0.o.still zst).frT (ts:=[59]) hf (Nat.le_refl _) (by simp);obtain⟨g0,c0,rfl,_,_⟩:=ho.head (by simp);rw[show(W.ms ++ [m7]).length=k1+1 by have:=EL.o;simp;omega]at ho⊢;have O0_1:=hid ho;have H0:Hid (k1<=c0):=hid (Jk ho);obtain⟨J1,n1,rfl⟩:=QJ hT (by simp only[World.size_alloc];omega);clear ho hf hT A0)
    | (at_builtin
       refine Vj KC _ rfl _ _ 29 rfl Tryz.underlying29 32 JS _ _ _ W.cs rfl rfl (HR.o.2.1.still zst) (by have:=HB.o;omega) ?_;intro v' u1 ho h1;obtain⟨ao1,cp1,rfl,_⟩:=ho.slice;have A1:=hid (ho.less (B':=w.heap.size+1+1) zsz);have O0_2:=hid (O0_1.o.still h1);obtain⟨J2,n2,rfl⟩:=(still_more.trans h1).more;clear ho h1)
    | (at_builtin
       refine Zw KC _ rfl _ _ 29 rfl Tryz.underlying29 32 JS (w.heap.size+1+1) _ _ W.cs c7 rfl rfl (A1.o.still zst) zbk (by have:=HB.o;have:=EL.o;omega) (by have:=HB.o;have:=EL.o;omega) zsz ?_;intro v' v1 ho hf;have hT:=(A1.o.still zst).frT (ts:=[67]) hf (Nat.le_refl _) (by simp);obtain⟨g1,c1,rfl,_,_⟩:=ho.head (by simp);rw[show(W.cs ++ [c7]).length=k2+1 by have:=EL.o;simp;omega]at ho⊢;have O1_3:=hid ho;have H1:Hid (k2<=c1):=hid (Jk ho);have O0_3:=hid ((O0_2.o.still zst).keepT hT (by decide));obtain⟨J3,n3,rfl⟩:=QJ hT (by simp only[World.size_alloc];omega);clear ho hf hT A1)
    | (at_builtin
       refine Vj KS _ rfl _ _ 30 rfl Tryz.underlying30 64 XP _ _ _ W.hs rfl rfl (HR.o.2.2.1.still zst) (by have:=HB.o;omega) ?_;intro v' u2 ho h1;obtain⟨ao2,cp2,rfl,_⟩:=ho.slice;have A2:=hid (ho.less (B':=w.heap.size+1+1) zsz);have O0_4:=hid (O0_3.o.still h1);have O1_4:=hid (O1_3.o.still h1);obtain⟨J4,n4,rfl⟩:=(still_more.trans h1).more;clear ho h1)
    | (at_builtin
       refine Zw KS _ rfl _ _ 30 rfl Tryz.underlying30 64 XP (w.heap.size+1+1) _ _ W.hs s7 rfl rfl (A2.o.still zst) zbk (by have:=HB.o;have:=EL.o;omega) (by have:=HB.o;have:=EL.o;omega) zsz ?_;intro v' v2 ho hf;have hT:=(A2.o.still zst).frT (ts:=[69]) hf (Nat.le_refl _) (by simp);obtain⟨g2,c2,rfl,_,_⟩:=ho.head (by simp);rw[show(W.hs ++ [s7]).length=k3+1 by have:=EL.o;simp;omega]at ho⊢;have O2_5:=hid ho;have H2:Hid (k3<=c2):=hid (Jk ho);have O0_5:=hid ((O0_4.o.still zst).keepT hT (by decide));have O1_5:=hid ((O1_4.o.still zst).keepT hT (by decide));obtain⟨J5,n5,rfl⟩:=QJ hT (by simp only[World.size_alloc];omega);clear ho hf hT A2)
    | (at_builtin
       refine Vj KQ _ rfl _ _ 31 rfl Tryz.underlying31 24 VI _ _ _ W.ks rfl rfl (HR.o.2.2.2.still zst) (by have:=HB.o;omega) ?_;intro v' u3 ho h1;obtain⟨ao3,cp3,rfl,_⟩:=ho.slice;have A3:=hid (ho.less (B':=w.heap.size+1+1) zsz);have O0_6:=hid (O0_5.o.still h1);have O1_6:=hid (O1_5.o.still h1);have O2_6:=hid (O2_5.o.still h1);obtain⟨J6,n6,rfl⟩:=(still_more.trans h1).more;clear ho h1)
    | (at_builtin
       refine Zw KQ _ rfl _ _ 31 rfl Tryz.underlying31 24 VI (w.heap.size+1+1) _ _ W.ks p7 rfl rfl (A3.o.still zst) zbk (by have:=HB.o;have:=EL.o;omega) (by have:=HB.o;have:=EL.o;omega) zsz ?_;intro v' v3 ho hf;have hT:=(A3.o.still zst).frT (ts:=[71]) hf (Nat.le_refl _) (by simp);obtain⟨g3,c3,rfl,_,_⟩:=ho.head (by simp);rw[show(W.ks ++ [p7]).length=k4+1 by have:=EL.o;simp;omega]at ho⊢;have O3_7:=hid ho;have H3:Hid (k4<=c3):=hid (Jk ho);have O0_7:=hid ((O0_6.o.still zst).keepT hT (by decide));have O1_7:=hid ((O1_6.o.still zst).keepT hT (by decide));have O2_7:=hid ((O2_6.o.still zst).keepT hT (by decide));obtain⟨J7,n7,rfl⟩:=QJ hT (by simp only[World.size_alloc];omega);clear ho hf hT A3))
  refine bodyPost_ret (XE zbk rfl rfl) rfl ⟨_,_,_,_,_,_,_,_,rfl,?_,?_,?_,?_,zst⟩
  · exact(OwG.keepB (F:=fun k=>k=w.heap.size\/k=w.heap.size+1) O0_7.o zgo (fun k hk=>by omega)).less zsz
  · exact(OwG.keepB (F:=fun k=>k=w.heap.size\/k=w.heap.size+1) O1_7.o zgo (fun k hk=>by omega)).less zsz
  · exact(OwG.keepB (F:=fun k=>k=w.heap.size\/k=w.heap.size+1) O2_7.o zgo (fun k hk=>by omega)).less zsz
  · exact(OwG.keepB (F:=fun k=>k=w.heap.size\/k=w.heap.size+1) O3_7.o zgo (fun k hk=>by omega)).less zsz
end Go.Proofs.YtcgmohldcokccaaGreatDoor
namespace Go.Proofs.YtcgmohldcokccaaGreatDoor
open Go.RowKit
open Pu Gp Ap Vp Np Za Ka Ja Ea Ha Hg Hi
set_option maxRecDepth 100000
attribute [local go_sem] zr Y8
def x7:Cm:=⟨0,0,-7,0,0,0,0⟩
theorem Yal(L:List Cm)(xo:Option Addr)(n xc:Nat)(w:World)(hx:RdG KX w xo n L)(hb:(n+1)*56<=140737488355328) :
    Calls Tryz.prog 8 #[.slice xo n xc] w fun e w'=>∃g c,e=.returned (.slice (some ⟨g,0,none⟩) n c)/\OwG KX 63 w' w.heap.size (.slice (some ⟨g,0,none⟩) (n+1) c) (L ++ [x7])/\Yc w w':=by
  have HX:=hid hx;have HL:=hid hx.1;clear hx;go_in
  go_wp2_with (first
    | (at_builtin
       refine Vj KX _ rfl _ _ 34 rfl Tryz.underlying34 56 JT _ _ _ L rfl rfl HX.o (by omega) ?_;intro v' u0 ho h1;obtain⟨ao0,cp0,rfl,_⟩:=ho.slice;have HO:=hid ho;have HS:=hid h1;have HY:Hid ((u0.alloc (.cells (xcs x7) 63)).heap[u0.heap.size]?=some (.cells (xcs x7) 63 (0,0))):=hid (heap_alloc_new u0 _);clear ho h1)
    | (at_builtin
       refine Zw KX _ rfl _ _ 34 rfl Tryz.underlying34 56 JT w.heap.size u0.heap.size _ L x7 rfl rfl (HO.o.still (sA u0 _)) HY.o (by have:=HL.o;omega) (by have:=HL.o;omega) (by have:=HS.o.size;simp;omega) ?_;intro v' v0 ho hf;have hT:=(HO.o.still (sA u0 _)).frT (ts:=[63]) hf (Nat.le_refl _) (by simp);obtain⟨g0,c0,rfl,_,_⟩:=ho.head (by simp);rw[show(L ++ [x7]).length=n+1 by have:=HL.o;simp;omega]at ho⊢;have HQ:=hid ho;have HC0:Hid (n<=c0):=hid (Jk ho);have HS2:=hid (hT.old (HS.o.trans (sA u0 _)) (Nat.le_refl _));clear ho hf hT))
  go_ret;exact⟨g0,c0,rfl,HQ.o,HS2.o⟩
abbrev odv(x:Cm):Value:=.agg #[.int .i64 x.v,.int .i64 x.a,.int .i64 x.b,.int .i64 x.c]
theorem Yam(x:Cm)(w:World):(Op.equalIn 9999 61 (odv x) (odv x)).run Tryz.prog w=.ok true w:=by
 rw[run_equalIn_struct w 9998 _ _ _ (by kernel_rfl) (by kernel_rfl)];have e : (Tryz.prog.fieldsOf 61) = #[⟨ "Verb", 3, 0, false, "", "", 0⟩, ⟨ "A", 3, 1, false, "", "", 8⟩, ⟨ "B", 3, 2, false, "", "", 16⟩, ⟨ "C", 3, 3, false, "", "", 24⟩]:=by kernel_rfl
 rw[e];go_simp
theorem Yan(x:Cm)(w:World):(Op.equalIn 10000 63 (xv x) (xv x)).run Tryz.prog w=.ok true w:=by
 have q:=Yam x;rw[run_equalIn_struct w 9999 _ _ _ (by kernel_rfl) (by kernel_rfl)];have e : (Tryz.prog.fieldsOf 63) = #[⟨ "Frame", 2, 0, false, "", "", 0⟩, ⟨ "Peer", 3, 1, false, "", "", 8⟩, ⟨ "Seq", 3, 2, false, "", "", 16⟩, ⟨ "Order", 61, 3, false, "", "", 24⟩]:=by kernel_rfl
 rw[e];go_simp
theorem Yao(x:Cm)(w:World):(binOp .neq 63 (xv x) (xv x)).run Tryz.prog w=.ok (.bool false) w:=by
 rw[run_neq_struct,Yan];rfl
theorem Yap(op:BinOp)(a b:Operand)(xs ys:Array Value)(w:World):(eqGuard op 63 a b (.agg xs) (.agg ys)).run Tryz.prog w=.ok () w:=run_eqGuard_agg w op _ a b xs ys (by kernel_rfl)
theorem Yaq(L:List Cm)(B g n c:Nat)(xo:Option Addr)(xc:Nat)(w:World)(hl:OwG KX 63 w B (.slice (some ⟨g,0,none⟩) (n+1) c) (L ++ [x7]))(hx:RdG KX w xo n L):Ya 14 #[.slice (some ⟨g,0,none⟩) n c,.slice xo n xc] w (.bool true):=by
 have HL:=hid hl;have HX:=hid hx;have hc:n+1<=c:=(Xl hl).1 ▸ (Xl hl).2;have hm:=hx.2.1;have hn:=hx.1;have G:=Yap;clear hl hx;unfold Ya;go_in;go_wp2_with fail
 go_loopw [5] (fun u wr=>∃i:Nat,i<=n/\u=.int .i64 (i:Int)/\Yc w wr) (fun u _=>n-(intOf u).toNat);case atStart=>exact⟨0,by omega,rfl,Fr.refl _ _⟩
 case round =>
  obtain⟨i,hi,rfl,hs⟩:=hrel;have HS:=hid hs;by_cases hlt:i<n
  ·have hlt':(i:Int)<(n:Int):=by omega
   have r0:=HL.o.still hs;have r1:=HX.o.still hs;obtain⟨D,d,rfl⟩:=r1.at (by omega);have z0:=r0.get (i:=i) (by simp;omega);have z1:=r1.get hlt;rw[show(L ++ [x7]).getD i KX.d=L.getD i KX.d by simp[List.getD,List.getElem?_append_left (show i<L.length by omega)]]at z0;obtain⟨x,ex⟩:∃x,L.getD i KX.d=x:=⟨_,rfl⟩;rw[ex]at z0 z1;have E1:=Yao x;obtain⟨y0,y1,y2,y3,y4,y5,y6⟩:(∀z:Aft wr,z.u.cell? ⟨g,i*7,none⟩=some (.int .i64 x.fr))/\(∀z:Aft wr,z.u.cell? ⟨g,i*7+1,none⟩=some (.int .i64 x.pe))/\(∀z:Aft wr,z.u.cell? ⟨g,i*7+2,none⟩=some (.int .i64 x.sq))/\(∀z:Aft wr,z.u.cell? ⟨g,i*7+3,none⟩=some (.int .i64 x.v))/\(∀z:Aft wr,z.u.cell? ⟨g,i*7+4,none⟩=some (.int .i64 x.a))/\(∀z:Aft wr,z.u.cell? ⟨g,i*7+5,none⟩=some (.int .i64 x.b))/\(∀z:Aft wr,z.u.cell? ⟨g,i*7+6,none⟩=some (.int .i64 x.c)):=⟨kC (z0 0 _ rfl),kC (z0 1 _ rfl),kC (z0 2 _ rfl),kC (z0 3 _ rfl),kC (z0 4 _ rfl),kC (z0 5 _ rfl),kC (z0 6 _ rfl)⟩;obtain⟨x0,x1,x2,x3,x4,x5,x6⟩:(∀z:Aft wr,z.u.cell? ⟨D,d+i*7,none⟩=some (.int .i64 x.fr))/\(∀z:Aft wr,z.u.cell? ⟨D,d+i*7+1,none⟩=some (.int .i64 x.pe))/\(∀z:Aft wr,z.u.cell? ⟨D,d+i*7+2,none⟩=some (.int .i64 x.sq))/\(∀z:Aft wr,z.u.cell? ⟨D,d+i*7+3,none⟩=some (.int .i64 x.v))/\(∀z:Aft wr,z.u.cell? ⟨D,d+i*7+4,none⟩=some (.int .i64 x.a))/\(∀z:Aft wr,z.u.cell? ⟨D,d+i*7+5,none⟩=some (.int .i64 x.b))/\(∀z:Aft wr,z.u.cell? ⟨D,d+i*7+6,none⟩=some (.int .i64 x.c)):=⟨kC (z1 0 _ rfl),kC (z1 1 _ rfl),kC (z1 2 _ rfl),kC (z1 3 _ rfl),kC (z1 4 _ rfl),kC (z1 5 _ rfl),kC (z1 6 _ rfl)⟩;have hne:=Aft.here wr;clear z0 z1 r0 r1 hs ex;go_wp2_with fail;refine Yk (by kernel_rfl) (by kernel_rfl) ?_;repeat(go_big_quiet_step (fail))
   refine wpQuiet_nil ?_;intro w2 h2;have HS2:=hid (HS.o.trans h2);clear h2 hne E1 y0 x0 y1 x1 y2 x2 y3 x3 y4 x4 y5 x5 y6 x6;go_wp2_with fail;go_roundw;case rel=>exact⟨i+1,by omega,by go_num,HS2.o⟩
   case measure=>simp[intOf];omega
  ·have hge:¬(i:Int)<(n:Int):=by omega
   have z0:=(HL.o.still hs).get (i:=n) (by simp;omega);rw[show(L ++ [x7]).getD n KX.d=x7 by simp[List.getD,<- hn]]at z0;have y2:wr.cell? ⟨g,n*7+2,none⟩=some (.int .i64 (-7)):=z0 2 _ rfl;clear z0 hs;go_wp2_with fail;go_ret;exact⟨rfl,HS.o⟩
theorem TA{w:World}{B g n c:Nat}{L:List Cm}(h:OwG KX 63 w B (.slice (some ⟨g,0,none⟩) (n+1) c) (L ++ [x7]))(hl:L.length=n)(hm:n<=281474976710656):RdG KX w (some ⟨g,0,none⟩) n L:=by
 subst hl;exact h.rd hm
def DR(B D k:Nat):Prop:=B<=k/\k<D
def Ty5:List TypeId:=[59,67,69,71]
def Fr5(B D:Nat)(w wr:World):Prop:=Fr (DR B D) w wr/\FrT B Ty5 w wr
def SpA(w wr:World)(B D:Nat)(fr nx:Int)(v1 v2 v3 v4:Value)(n1 n2 n3 n4:Nat):Prop:=∃ms cs hs ks,(ms.length=n1/\cs.length=n2/\hs.length=n3/\ks.length=n4)/\(OwG KM 59 wr B v1 ms/\OwG KC 67 wr B v2 cs/\OwG KS 69 wr B v3 hs/\OwG KQ 71 wr B v4 ks)/\Wdb wr w.heap.size fr nx v1 v2 v3 v4/\Fr5 B D w wr
theorem SpA.putM{w wr:World}{B D:Nat}{fr nx:Int}{v2 v3 v4:Value}{n2 n3 n4 g k y:Nat}{ms:List Mv}{cs:List Scr}{hs:List Sh}{ks:List Pk}(hl:ms.length=k/\cs.length=n2/\hs.length=n3/\ks.length=n4)(o1:OwG KM 59 wr B (.slice (some ⟨g,0,none⟩) k y) ms)(o2:OwG KC 67 wr B v2 cs)(o3:OwG KS 69 wr B v3 hs)(o4:OwG KQ 71 wr B v4 ks)(hb:Wdb wr w.heap.size fr nx (.slice (some ⟨g,0,none⟩) k y) v2 v3 v4)(hf:Fr5 B D w wr)(hg:g<D){i:Nat}(hi:i<k)(x:Mv):SpA w (wr.setCells g (i*KM.k) (KM.f x)) B D fr nx (.slice (some ⟨g,0,none⟩) k y) v2 v3 v4 k n2 n3 n4:=by
 have hT:=OwG.setT o1 (ts:=[59]) (by simp) (KM.f x) (i*KM.k) wr (FrT.refl _ _ _) (o1.ty rfl);exact⟨ms.set i x,cs,hs,ks,⟨(by simpa using hl.1),hl.2.1,hl.2.2.1,hl.2.2.2⟩,⟨o1.put (by omega) x,o2.keepT hT (by decide),o3.keepT hT (by decide),o4.keepT hT (by decide)⟩,hT.kept hb (by decide),⟨UP g _ _ wr hf.1 (.inl ⟨(o1.block (k:=g) rfl).1,hg⟩),hf.2.trans (hT.mono (by simp[Ty5]))⟩⟩
theorem SpA.putC{w wr:World}{B D:Nat}{fr nx:Int}{v1 v3 v4:Value}{n1 n3 n4 g k y:Nat}{ms:List Mv}{cs:List Scr}{hs:List Sh}{ks:List Pk}(hl:ms.length=n1/\cs.length=k/\hs.length=n3/\ks.length=n4)(o1:OwG KM 59 wr B v1 ms)(o2:OwG KC 67 wr B (.slice (some ⟨g,0,none⟩) k y) cs)(o3:OwG KS 69 wr B v3 hs)(o4:OwG KQ 71 wr B v4 ks)(hb:Wdb wr w.heap.size fr nx v1 (.slice (some ⟨g,0,none⟩) k y) v3 v4)(hf:Fr5 B D w wr)(hg:g<D){i:Nat}(hi:i<k)(x:Scr):SpA w (wr.setCells g (i*KC.k) (KC.f x)) B D fr nx v1 (.slice (some ⟨g,0,none⟩) k y) v3 v4 n1 k n3 n4:=by
 have hT:=OwG.setT o2 (ts:=[67]) (by simp) (KC.f x) (i*KC.k) wr (FrT.refl _ _ _) (o2.ty rfl);exact⟨ms,cs.set i x,hs,ks,⟨hl.1,(by simpa using hl.2.1),hl.2.2.1,hl.2.2.2⟩,⟨o1.keepT hT (by decide),o2.put (by omega) x,o3.keepT hT (by decide),o4.keepT hT (by decide)⟩,hT.kept hb (by decide),⟨UP g _ _ wr hf.1 (.inl ⟨(o2.block (k:=g) rfl).1,hg⟩),hf.2.trans (hT.mono (by simp[Ty5]))⟩⟩
theorem SpA.putS{w wr:World}{B D:Nat}{fr nx:Int}{v1 v2 v4:Value}{n1 n2 n4 g k y:Nat}{ms:List Mv}{cs:List Scr}{hs:List Sh}{ks:List Pk}(hl:ms.length=n1/\cs.length=n2/\hs.length=k/\ks.length=n4)(o1:OwG KM 59 wr B v1 ms)(o2:OwG KC 67 wr B v2 cs)(o3:OwG KS 69 wr B (.slice (some ⟨g,0,none⟩) k y) hs)(o4:OwG KQ 71 wr B v4 ks)(hb:Wdb wr w.heap.size fr nx v1 v2 (.slice (some ⟨g,0,none⟩) k y) v4)(hf:Fr5 B D w wr)(hg:g<D){i:Nat}(hi:i<k)(x:Sh):SpA w (wr.setCells g (i*KS.k) (KS.f x)) B D fr nx v1 v2 (.slice (some ⟨g,0,none⟩) k y) v4 n1 n2 k n4:=by
 have hT:=OwG.setT o3 (ts:=[69]) (by simp) (KS.f x) (i*KS.k) wr (FrT.refl _ _ _) (o3.ty rfl);exact⟨ms,cs,hs.set i x,ks,⟨hl.1,hl.2.1,(by simpa using hl.2.2.1),hl.2.2.2⟩,⟨o1.keepT hT (by decide),o2.keepT hT (by decide),o3.put (by omega) x,o4.keepT hT (by decide)⟩,hT.kept hb (by decide),⟨UP g _ _ wr hf.1 (.inl ⟨(o3.block (k:=g) rfl).1,hg⟩),hf.2.trans (hT.mono (by simp[Ty5]))⟩⟩
theorem SpA.putQ{w wr:World}{B D:Nat}{fr nx:Int}{v1 v2 v3:Value}{n1 n2 n3 g k y:Nat}{ms:List Mv}{cs:List Scr}{hs:List Sh}{ks:List Pk}(hl:ms.length=n1/\cs.length=n2/\hs.length=n3/\ks.length=k)(o1:OwG KM 59 wr B v1 ms)(o2:OwG KC 67 wr B v2 cs)(o3:OwG KS 69 wr B v3 hs)(o4:OwG KQ 71 wr B (.slice (some ⟨g,0,none⟩) k y) ks)(hb:Wdb wr w.heap.size fr nx v1 v2 v3 (.slice (some ⟨g,0,none⟩) k y))(hf:Fr5 B D w wr)(hg:g<D){i:Nat}(hi:i<k)(x:Pk):SpA w (wr.setCells g (i*KQ.k) (KQ.f x)) B D fr nx v1 v2 v3 (.slice (some ⟨g,0,none⟩) k y) n1 n2 n3 k:=by
 have hT:=OwG.setT o4 (ts:=[71]) (by simp) (KQ.f x) (i*KQ.k) wr (FrT.refl _ _ _) (o4.ty rfl);exact⟨ms,cs,hs,ks.set i x,⟨hl.1,hl.2.1,hl.2.2.1,(by simpa using hl.2.2.2)⟩,⟨o1.keepT hT (by decide),o2.keepT hT (by decide),o3.keepT hT (by decide),o4.put (by omega) x⟩,hT.kept hb (by decide),⟨UP g _ _ wr hf.1 (.inl ⟨(o4.block (k:=g) rfl).1,hg⟩),hf.2.trans (hT.mono (by simp[Ty5]))⟩⟩
theorem Yar(fr nx:Int)(xa xb xc xd:Option Addr)(k1 k2 k3 k4 ya yb yc yd:Nat)(ms:List Mv)(cs:List Scr)(hs:List Sh)(ks:List Pk)(B D:Nat)(w:World)(hl:ms.length=k1/\cs.length=k2/\hs.length=k3/\ks.length=k4)(o:OwG KM 59 w B (.slice xa k1 ya) ms/\OwG KC 67 w B (.slice xb k2 yb) cs/\OwG KS 69 w B (.slice xc k3 yc) hs/\OwG KQ 71 w B (.slice xd k4 yd) ks)(hm:k1<=281474976710656/\k2<=281474976710656/\k3<=281474976710656/\k4<=281474976710656)(hD:(∀g,xa=some ⟨g,0,none⟩->g<D)/\(∀g,xb=some ⟨g,0,none⟩->g<D)/\(∀g,xc=some ⟨g,0,none⟩->g<D)/\(∀g,xd=some ⟨g,0,none⟩->g<D)) :
  Calls Tryz.prog 15 #[.agg (Ye fr nx (.slice xa k1 ya) (.slice xb k2 yb) (.slice xc k3 yc) (.slice xd k4 yd))] w fun e w'=>e=.returned (.tuple #[])/\Fr5 B D w w':=by
 have A0:=sA w (.cells (Ye fr nx (.slice xa k1 ya) (.slice xb k2 yb) (.slice xc k3 yc) (.slice xd k4 yd)) 33);have HI0:Hid (SpA w (w.alloc (.cells (Ye fr nx (.slice xa k1 ya) (.slice xb k2 yb) (.slice xc k3 yc) (.slice xd k4 yd)) 33)) B D fr nx (.slice xa k1 ya) (.slice xb k2 yb) (.slice xc k3 yc) (.slice xd k4 yd) k1 k2 k3 k4):=hid ⟨ms,cs,hs,ks,hl,⟨o.1.still A0,o.2.1.still A0,o.2.2.1.still A0,o.2.2.2.still A0⟩,Zl w fr nx _ _ _ _,(Fr.refl _ w).alloc _,FrT.of_still A0⟩;have HG:=hid hD;obtain⟨hm1,hm2,hm3,hm4⟩:=hm;clear A0 o hl hD;obtain⟨W0,eW0⟩:∃X,w.alloc (.cells (Ye fr nx (.slice xa k1 ya) (.slice xb k2 yb) (.slice xc k3 yc) (.slice xd k4 yd)) 33)=X:=⟨_,rfl⟩;rw[eW0]at HI0;go_enter Tryz.func15,Tryz.ntmps15;go_wp2_with fail;clear eW0;go_loopw [2] (fun u wr=>∃i:Nat,i<=k1/\u=.int .i64 (i:Int)/\SpA w wr B D fr nx (.slice xa k1 ya) (.slice xb k2 yb) (.slice xc k3 yc) (.slice xd k4 yd) k1 k2 k3 k4) (fun u _=>k1-(intOf u).toNat);case atStart=>exact⟨0,by omega,rfl,HI0.o⟩
 case round =>
  clear HI0;obtain⟨i,hi,rfl,ms,cs,hs,ks,hl,⟨o1,o2,o3,o4⟩,hb,hf⟩:=hrel;obtain⟨c0,c1,c2,c3,c4,c5,cf⟩:=hb.cells;by_cases hin:i<k1
  ·have hlt:(i:Int)<(k1:Int):=by omega
   obtain⟨gm,cpm,hv,hv1,hv2⟩:=o1.head (by omega);simp only[Value.slice.injEq]at hv;obtain⟨rfl,hv3,hv4⟩:=hv;obtain⟨d0,d1,d2,d3,d4,d5,d6,d7,d8,d9,d10,d11,d12,df⟩:=owM o1 (i:=i) (by omega);have hsub:IntKind.i64.wrap (-1-(i:Int))=-1-(i:Int):=by rw[IntKind.wrap_i64];omega
   have HPt:=hid (SpA.putM hl o1 o2 o3 o4 hb hf (HG.o.1 gm rfl) hin ⟨0,0,0,0,0,0,0,0,0,false,0,-1-(i:Int),0⟩);obtain⟨zz,ezz⟩:∃z,mm ms i=z:=⟨_,rfl⟩;rw[ezz]at d0 d1 d2 d3 d4 d5 d6 d7 d8 d9 d10 d11 d12;obtain⟨W4,eW4⟩:∃W,(((((((((((((wr.setCell ⟨gm,i*13,none⟩ (.int .i64 0)).setCell ⟨gm,i*13+1,none⟩ (.int .i64 0)).setCell ⟨gm,i*13+2,none⟩ (.int .i64 0)).setCell ⟨gm,i*13+3,none⟩ (.int .i64 0)).setCell ⟨gm,i*13+4,none⟩ (.int .i64 0)).setCell ⟨gm,i*13+5,none⟩ (.int .i64 0)).setCell ⟨gm,i*13+6,none⟩ (.int .i64 0)).setCell ⟨gm,i*13+7,none⟩ (.int .i64 0)).setCell ⟨gm,i*13+8,none⟩ (.int .i64 0)).setCell ⟨gm,i*13+9,none⟩ (.bool false)).setCell ⟨gm,i*13+10,none⟩ (.int .i64 0)).setCell ⟨gm,i*13+11,none⟩ (.int .i64 (-1-(i:Int)))).setCell ⟨gm,i*13+12,none⟩ (.int .i64 0))=W:=⟨_,rfl⟩;have HP4:Hid (SpA w W4 B D fr nx (.slice (some ⟨gm,0,none⟩) k1 ya) (.slice xb k2 yb) (.slice xc k3 yc) (.slice xd k4 yd) k1 k2 k3 k4):=hid (by rw[<- eW4];exact HPt.o);clear HPt hl o1 o2 o3 o4 hb hf hv1 hv2 hv3 hv4 ezz;go_wp2_with fail;go_roundw;case rel=>exact⟨i+1,by omega,by go_num,HP4.o⟩
   case measure=>first|(simp[intOf];done)|(simp[intOf];omega)
  have hge:¬(i:Int)<(k1:Int):=by omega
  have HI1:Hid (SpA w wr B D fr nx (.slice xa k1 ya) (.slice xb k2 yb) (.slice xc k3 yc) (.slice xd k4 yd) k1 k2 k3 k4):=hid ⟨ms,cs,hs,ks,hl,⟨o1,o2,o3,o4⟩,hb,hf⟩;clear hl o1 o2 o3 o4 hb hf hi hin;go_wp2_with fail;clear c0 c1 c2 c3 c4 c5 cf hge;go_loopw [3] (fun u wr=>∃i:Nat,i<=k2/\u=.int .i64 (i:Int)/\SpA w wr B D fr nx (.slice xa k1 ya) (.slice xb k2 yb) (.slice xc k3 yc) (.slice xd k4 yd) k1 k2 k3 k4) (fun u _=>k2-(intOf u).toNat);case atStart=>exact⟨0,by omega,rfl,HI1.o⟩
  case round =>
   clear HI1;obtain⟨i,hi,rfl,ms,cs,hs,ks,hl,⟨o1,o2,o3,o4⟩,hb,hf⟩:=hrel;obtain⟨c0,c1,c2,c3,c4,c5,cf⟩:=hb.cells;by_cases hin:i<k2
   ·have hlt:(i:Int)<(k2:Int):=by omega
    obtain⟨gm,cpm,hv,hv1,hv2⟩:=o2.head (by omega);simp only[Value.slice.injEq]at hv;obtain⟨rfl,hv3,hv4⟩:=hv;obtain⟨d0,d1,d2,d3,df⟩:=owC o2 (i:=i) (by omega);have hsub:IntKind.i64.wrap (-1-(i:Int))=-1-(i:Int):=by rw[IntKind.wrap_i64];omega
    have HPt:=hid (SpA.putC hl o1 o2 o3 o4 hb hf (HG.o.2.1 gm rfl) hin ⟨0,-1-(i:Int),0,0⟩);obtain⟨zz,ezz⟩:∃z,sc cs i=z:=⟨_,rfl⟩;rw[ezz]at d0 d1 d2 d3;obtain⟨W4,eW4⟩:∃W,((((wr.setCell ⟨gm,i*4,none⟩ (.int .i64 0)).setCell ⟨gm,i*4+1,none⟩ (.int .i64 (-1-(i:Int)))).setCell ⟨gm,i*4+2,none⟩ (.int .i64 0)).setCell ⟨gm,i*4+3,none⟩ (.int .i64 0))=W:=⟨_,rfl⟩;have HP4:Hid (SpA w W4 B D fr nx (.slice xa k1 ya) (.slice (some ⟨gm,0,none⟩) k2 yb) (.slice xc k3 yc) (.slice xd k4 yd) k1 k2 k3 k4):=hid (by rw[<- eW4];exact HPt.o);clear HPt hl o1 o2 o3 o4 hb hf hv1 hv2 hv3 hv4 ezz;go_wp2_with fail;go_roundw;case rel=>exact⟨i+1,by omega,by go_num,HP4.o⟩
    case measure=>first|(simp[intOf];done)|(simp[intOf];omega)
   have hge:¬(i:Int)<(k2:Int):=by omega
   have HI2:Hid (SpA w wr B D fr nx (.slice xa k1 ya) (.slice xb k2 yb) (.slice xc k3 yc) (.slice xd k4 yd) k1 k2 k3 k4):=hid ⟨ms,cs,hs,ks,hl,⟨o1,o2,o3,o4⟩,hb,hf⟩;clear hl o1 o2 o3 o4 hb hf hi hin;go_wp2_with fail;clear c0 c1 c2 c3 c4 c5 cf hge;go_loopw [4] (fun u wr=>∃i:Nat,i<=k3/\u=.int .i64 (i:Int)/\SpA w wr B D fr nx (.slice xa k1 ya) (.slice xb k2 yb) (.slice xc k3 yc) (.slice xd k4 yd) k1 k2 k3 k4) (fun u _=>k3-(intOf u).toNat);case atStart=>exact⟨0,by omega,rfl,HI2.o⟩
   case round =>
    clear HI2;obtain⟨i,hi,rfl,ms,cs,hs,ks,hl,⟨o1,o2,o3,o4⟩,hb,hf⟩:=hrel;obtain⟨c0,c1,c2,c3,c4,c5,cf⟩:=hb.cells;by_cases hin:i<k3
    ·have hlt:(i:Int)<(k3:Int):=by omega
     obtain⟨gm,cpm,hv,hv1,hv2⟩:=o3.head (by omega);simp only[Value.slice.injEq]at hv;obtain⟨rfl,hv3,hv4⟩:=hv;obtain⟨d0,d1,d2,d3,d4,d5,d6,d7,df⟩:=owS o3 (i:=i) (by omega);have hsub:IntKind.i64.wrap (-1-(i:Int))=-1-(i:Int):=by rw[IntKind.wrap_i64];omega
     have HPt:=hid (SpA.putS hl o1 o2 o3 o4 hb hf (HG.o.2.2.1 gm rfl) hin ⟨-1-(i:Int),0,0,0,0,0,0,0⟩);obtain⟨zz,ezz⟩:∃z,ss hs i=z:=⟨_,rfl⟩;rw[ezz]at d0 d1 d2 d3 d4 d5 d6 d7;obtain⟨W4,eW4⟩:∃W,((((((((wr.setCell ⟨gm,i*8,none⟩ (.int .i64 (-1-(i:Int)))).setCell ⟨gm,i*8+1,none⟩ (.int .i64 0)).setCell ⟨gm,i*8+2,none⟩ (.int .i64 0)).setCell ⟨gm,i*8+3,none⟩ (.int .i64 0)).setCell ⟨gm,i*8+4,none⟩ (.int .i64 0)).setCell ⟨gm,i*8+5,none⟩ (.int .i64 0)).setCell ⟨gm,i*8+6,none⟩ (.int .i64 0)).setCell ⟨gm,i*8+7,none⟩ (.int .i64 0))=W:=⟨_,rfl⟩;have HP4:Hid (SpA w W4 B D fr nx (.slice xa k1 ya) (.slice xb k2 yb) (.slice (some ⟨gm,0,none⟩) k3 yc) (.slice xd k4 yd) k1 k2 k3 k4):=hid (by rw[<- eW4];exact HPt.o);clear HPt hl o1 o2 o3 o4 hb hf hv1 hv2 hv3 hv4 ezz;go_wp2_with fail;go_roundw;case rel=>exact⟨i+1,by omega,by go_num,HP4.o⟩
     case measure=>first|(simp[intOf];done)|(simp[intOf];omega)
    have hge:¬(i:Int)<(k3:Int):=by omega
    have HI3:Hid (SpA w wr B D fr nx (.slice xa k1 ya) (.slice xb k2 yb) (.slice xc k3 yc) (.slice xd k4 yd) k1 k2 k3 k4):=hid ⟨ms,cs,hs,ks,hl,⟨o1,o2,o3,o4⟩,hb,hf⟩;clear hl o1 o2 o3 o4 hb hf hi hin;go_wp2_with fail;clear c0 c1 c2 c3 c4 c5 cf hge;go_loopw [5] (fun u wr=>∃i:Nat,i<=k4/\u=.int .i64 (i:Int)/\SpA w wr B D fr nx (.slice xa k1 ya) (.slice xb k2 yb) (.slice xc k3 yc) (.slice xd k4 yd) k1 k2 k3 k4) (fun u _=>k4-(intOf u).toNat);case atStart=>exact⟨0,by omega,rfl,HI3.o⟩
    case round =>
     clear HI3;obtain⟨i,hi,rfl,ms,cs,hs,ks,hl,⟨o1,o2,o3,o4⟩,hb,hf⟩:=hrel;obtain⟨c0,c1,c2,c3,c4,c5,cf⟩:=hb.cells;by_cases hin:i<k4
     ·have hlt:(i:Int)<(k4:Int):=by omega
      obtain⟨gm,cpm,hv,hv1,hv2⟩:=o4.head (by omega);simp only[Value.slice.injEq]at hv;obtain⟨rfl,hv3,hv4⟩:=hv;obtain⟨d0,d1,d2,df⟩:=owQ o4 (i:=i) (by omega);have hsub:IntKind.i64.wrap (-1-(i:Int))=-1-(i:Int):=by rw[IntKind.wrap_i64];omega
      have HPt:=hid (SpA.putQ hl o1 o2 o3 o4 hb hf (HG.o.2.2.2 gm rfl) hin ⟨-1-(i:Int),0,0⟩);obtain⟨zz,ezz⟩:∃z,pk ks i=z:=⟨_,rfl⟩;rw[ezz]at d0 d1 d2;obtain⟨W4,eW4⟩:∃W,(((wr.setCell ⟨gm,i*3,none⟩ (.int .i64 (-1-(i:Int)))).setCell ⟨gm,i*3+1,none⟩ (.int .i64 0)).setCell ⟨gm,i*3+2,none⟩ (.int .i64 0))=W:=⟨_,rfl⟩;have HP4:Hid (SpA w W4 B D fr nx (.slice xa k1 ya) (.slice xb k2 yb) (.slice xc k3 yc) (.slice (some ⟨gm,0,none⟩) k4 yd) k1 k2 k3 k4):=hid (by rw[<- eW4];exact HPt.o);clear HPt hl o1 o2 o3 o4 hb hf hv1 hv2 hv3 hv4 ezz;go_wp2_with fail;go_roundw;case rel=>exact⟨i+1,by omega,by go_num,HP4.o⟩
      case measure=>first|(simp[intOf];done)|(simp[intOf];omega)
     have hge:¬(i:Int)<(k4:Int):=by omega
     have HI4:Hid (SpA w wr B D fr nx (.slice xa k1 ya) (.slice xb k2 yb) (.slice xc k3 yc) (.slice xd k4 yd) k1 k2 k3 k4):=hid ⟨ms,cs,hs,ks,hl,⟨o1,o2,o3,o4⟩,hb,hf⟩;clear hl o1 o2 o3 o4 hb hf hi hin;go_wp2_with fail;go_end0;obtain⟨_,_,_,_,_,_,_,hf⟩:=HI4.o;exact⟨rfl,hf⟩
end Go.Proofs.YtcgmohldcokccaaGreatDoor
namespace Go.Proofs.YtcgmohldcokccaaGreatDoor
open Go.RowKit
open Pu Gp Ap Vp Np Za Ka Ja Ea Ha
set_option maxRecDepth 100000
theorem TB(W:Wd)(fr nx:Int)(g0 c0 g1 c1 g2 c2 g3 c3:Nat)(xa xb xc xd:Option Addr)(k1 k2 k3 k4 ya yb yc yd:Nat)(w:World)(B:Nat)(o0:OwG KM 59 w B (.slice (some ⟨g0,0,none⟩) (k1+1) c0) (W.ms ++ [m7]))(o1:OwG KC 67 w B (.slice (some ⟨g1,0,none⟩) (k2+1) c1) (W.cs ++ [c7]))(o2:OwG KS 69 w B (.slice (some ⟨g2,0,none⟩) (k3+1) c2) (W.hs ++ [s7]))(o3:OwG KQ 71 w B (.slice (some ⟨g3,0,none⟩) (k4+1) c3) (W.ks ++ [p7]))(hl:RdW w (.agg (Ye fr nx (.slice (some ⟨g0,0,none⟩) k1 c0) (.slice (some ⟨g1,0,none⟩) k2 c1) (.slice (some ⟨g2,0,none⟩) k3 c2) (.slice (some ⟨g3,0,none⟩) k4 c3))) W)(hv:RdW w (.agg (Ye fr nx (.slice xa k1 ya) (.slice xb k2 yb) (.slice xc k3 yc) (.slice xd k4 yd))) W)(he:W.ms.length=k1/\W.cs.length=k2/\W.hs.length=k3/\W.ks.length=k4)(hb:k1<=281474976710656/\k2<=281474976710656/\k3<=281474976710656/\k4<=281474976710656) :
  Ya 13 #[.agg (Ye fr nx (.slice (some ⟨g0,0,none⟩) k1 c0) (.slice (some ⟨g1,0,none⟩) k2 c1) (.slice (some ⟨g2,0,none⟩) k3 c2) (.slice (some ⟨g3,0,none⟩) k4 c3)),.agg (Ye fr nx (.slice xa k1 ya) (.slice xb k2 yb) (.slice xc k3 yc) (.slice xd k4 yd))] w (.bool true):=by
 have EL:=hid he;have t0:∀W':World,(Instr.slice 28 (.slice (some ⟨g0,0,none⟩) k1 c0) none (some (.int .i64 ((k1:Int)+1))) none).run Tryz.prog W'=.ok (.slice (some ⟨g0,0,none⟩) (k1+1) c0) W':=fun W'=>by have h:=Qd (P:=Tryz.prog) Tryz.underlying28 (e:=59) ⟨_,rfl⟩ W' (some ⟨g0,0,none⟩) k1 c0 ((k1:Int)+1) (by omega) (by have hq:=(Xl o0).2;have:=EL.o;simp only[List.length_append,List.length_cons,List.length_nil]at hq;omega);rw[show((k1:Int)+1).toNat=k1+1 by omega]at h;exact h
 have t1:∀W':World,(Instr.slice 29 (.slice (some ⟨g1,0,none⟩) k2 c1) none (some (.int .i64 ((k2:Int)+1))) none).run Tryz.prog W'=.ok (.slice (some ⟨g1,0,none⟩) (k2+1) c1) W':=fun W'=>by have h:=Qd (P:=Tryz.prog) Tryz.underlying29 (e:=67) ⟨_,rfl⟩ W' (some ⟨g1,0,none⟩) k2 c1 ((k2:Int)+1) (by omega) (by have hq:=(Xl o1).2;have:=EL.o;simp only[List.length_append,List.length_cons,List.length_nil]at hq;omega);rw[show((k2:Int)+1).toNat=k2+1 by omega]at h;exact h
 have t2:∀W':World,(Instr.slice 30 (.slice (some ⟨g2,0,none⟩) k3 c2) none (some (.int .i64 ((k3:Int)+1))) none).run Tryz.prog W'=.ok (.slice (some ⟨g2,0,none⟩) (k3+1) c2) W':=fun W'=>by have h:=Qd (P:=Tryz.prog) Tryz.underlying30 (e:=69) ⟨_,rfl⟩ W' (some ⟨g2,0,none⟩) k3 c2 ((k3:Int)+1) (by omega) (by have hq:=(Xl o2).2;have:=EL.o;simp only[List.length_append,List.length_cons,List.length_nil]at hq;omega);rw[show((k3:Int)+1).toNat=k3+1 by omega]at h;exact h
 have t3:∀W':World,(Instr.slice 31 (.slice (some ⟨g3,0,none⟩) k4 c3) none (some (.int .i64 ((k4:Int)+1))) none).run Tryz.prog W'=.ok (.slice (some ⟨g3,0,none⟩) (k4+1) c3) W':=fun W'=>by have h:=Qd (P:=Tryz.prog) Tryz.underlying31 (e:=71) ⟨_,rfl⟩ W' (some ⟨g3,0,none⟩) k4 c3 ((k4:Int)+1) (by omega) (by have hq:=(Xl o3).2;have:=EL.o;simp only[List.length_append,List.length_cons,List.length_nil]at hq;omega);rw[show((k4:Int)+1).toNat=k4+1 by omega]at h;exact h
 have y0:w.cell? ⟨g0,k1*13+11,none⟩=some (.int .i64 (-7)):=by have h:=o0.get (i:=k1) (by have:=EL.o;simp;omega) 11 (.int .i64 (-7)) (by rw[show(W.ms ++ [m7]).getD k1 KM.d=m7 by rw[show k1=W.ms.length by have:=EL.o;omega];simp[List.getD_eq_getElem?_getD]];rfl);exact h
 have y1:w.cell? ⟨g1,k2*4+1,none⟩=some (.int .i64 (-7)):=by have h:=o1.get (i:=k2) (by have:=EL.o;simp;omega) 1 (.int .i64 (-7)) (by rw[show(W.cs ++ [c7]).getD k2 KC.d=c7 by rw[show k2=W.cs.length by have:=EL.o;omega];simp[List.getD_eq_getElem?_getD]];rfl);exact h
 have y2:w.cell? ⟨g2,k3*8,none⟩=some (.int .i64 (-7)):=by have h:=o2.get (i:=k3) (by have:=EL.o;simp;omega) 0 (.int .i64 (-7)) (by rw[show(W.hs ++ [s7]).getD k3 KS.d=s7 by rw[show k3=W.hs.length by have:=EL.o;omega];simp[List.getD_eq_getElem?_getD]];rfl);exact h
 have y3:w.cell? ⟨g3,k4*3,none⟩=some (.int .i64 (-7)):=by have h:=o3.get (i:=k4) (by have:=EL.o;simp;omega) 0 (.int .i64 (-7)) (by rw[show(W.ks ++ [p7]).getD k4 KQ.d=p7 by rw[show k4=W.ks.length by have:=EL.o;omega];simp[List.getD_eq_getElem?_getD]];rfl);exact h
 have HYc:=hid (And.intro y0 (And.intro y1 (And.intro y2 y3)));have A0:=sA w (.cells (Ye fr nx (.slice (some ⟨g0,0,none⟩) k1 c0) (.slice (some ⟨g1,0,none⟩) k2 c1) (.slice (some ⟨g2,0,none⟩) k3 c2) (.slice (some ⟨g3,0,none⟩) k4 c3)) 33);have A1:=sA (w.alloc (.cells (Ye fr nx (.slice (some ⟨g0,0,none⟩) k1 c0) (.slice (some ⟨g1,0,none⟩) k2 c1) (.slice (some ⟨g2,0,none⟩) k3 c2) (.slice (some ⟨g3,0,none⟩) k4 c3)) 33)) (.cells (Ye fr nx (.slice xa k1 ya) (.slice xb k2 yb) (.slice xc k3 yc) (.slice xd k4 yd)) 33);have z0:=Zl (w.alloc (.cells (Ye fr nx (.slice (some ⟨g0,0,none⟩) k1 c0) (.slice (some ⟨g1,0,none⟩) k2 c1) (.slice (some ⟨g2,0,none⟩) k3 c2) (.slice (some ⟨g3,0,none⟩) k4 c3)) 33)) fr nx (.slice xa k1 ya) (.slice xb k2 yb) (.slice xc k3 yc) (.slice xd k4 yd);rw[size_alloc]at z0;have HS0:=hid (A0.trans A1);have HW0:Hid (Wdb ((w.alloc (.cells (Ye fr nx (.slice (some ⟨g0,0,none⟩) k1 c0) (.slice (some ⟨g1,0,none⟩) k2 c1) (.slice (some ⟨g2,0,none⟩) k3 c2) (.slice (some ⟨g3,0,none⟩) k4 c3)) 33)).alloc (.cells (Ye fr nx (.slice xa k1 ya) (.slice xb k2 yb) (.slice xc k3 yc) (.slice xd k4 yd)) 33)) w.heap.size fr nx (.slice (some ⟨g0,0,none⟩) k1 c0) (.slice (some ⟨g1,0,none⟩) k2 c1) (.slice (some ⟨g2,0,none⟩) k3 c2) (.slice (some ⟨g3,0,none⟩) k4 c3)):=hid ((Zl w fr nx (.slice (some ⟨g0,0,none⟩) k1 c0) (.slice (some ⟨g1,0,none⟩) k2 c1) (.slice (some ⟨g2,0,none⟩) k3 c2) (.slice (some ⟨g3,0,none⟩) k4 c3)).still A1);have HZ0:Hid (Wdb ((w.alloc (.cells (Ye fr nx (.slice (some ⟨g0,0,none⟩) k1 c0) (.slice (some ⟨g1,0,none⟩) k2 c1) (.slice (some ⟨g2,0,none⟩) k3 c2) (.slice (some ⟨g3,0,none⟩) k4 c3)) 33)).alloc (.cells (Ye fr nx (.slice xa k1 ya) (.slice xb k2 yb) (.slice xc k3 yc) (.slice xd k4 yd)) 33)) (w.heap.size+1) fr nx (.slice xa k1 ya) (.slice xb k2 yb) (.slice xc k3 yc) (.slice xd k4 yd)):=hid z0;have HL:=hid hl;have HV:=hid hv;have HO:=hid (And.intro o0 (And.intro o1 (And.intro o2 o3)));obtain⟨hb1,hb2,hb3,hb4⟩:=hb;clear o0 o1 o2 o3 hl hv he A0 A1 z0 y0 y1 y2 y3;obtain⟨W0,eW0⟩:∃X,((w.alloc (.cells (Ye fr nx (.slice (some ⟨g0,0,none⟩) k1 c0) (.slice (some ⟨g1,0,none⟩) k2 c1) (.slice (some ⟨g2,0,none⟩) k3 c2) (.slice (some ⟨g3,0,none⟩) k4 c3)) 33)).alloc (.cells (Ye fr nx (.slice xa k1 ya) (.slice xb k2 yb) (.slice xc k3 yc) (.slice xd k4 yd)) 33))=X:=⟨_,rfl⟩;rw[eW0]at HS0 HW0 HZ0;obtain⟨d0,d1,d2,d3,d4,d5,df⟩:=HW0.o.cells;obtain⟨f0,f1,f2,f3,f4,f5,ff⟩:=HZ0.o.cells;go_enter Tryz.func13,Tryz.ntmps13;go_wp2_with fail;refine(Qi W _ _ W0 (HL.o.still HS0.o) (HV.o.still HS0.o)).mono ?_;rintro e w2 ⟨rfl,h2⟩;have HS2:=hid (HS0.o.trans h2);have HW2:=hid (HW0.o.still h2);have HZ2:=hid (HZ0.o.still h2);have r0:=kC HYc.o.1 ⟨w2,HS2.o⟩;have r1:=kC HYc.o.2.1 ⟨w2,HS2.o⟩;have r2:=kC HYc.o.2.2.1 ⟨w2,HS2.o⟩;have r3:=kC HYc.o.2.2.2 ⟨w2,HS2.o⟩;clear h2 eW0 d0 d1 d2 d3 d4 d5 df f0 f1 f2 f3 f4 f5 ff HS0 HW0 HZ0;obtain⟨d0,d1,d2,d3,d4,d5,df⟩:=HW2.o.cells;obtain⟨f0,f1,f2,f3,f4,f5,ff⟩:=HZ2.o.cells;go_wp2_with fail;go_ret;exact⟨rfl,HS2.o⟩
end Go.Proofs.YtcgmohldcokccaaGreatDoor
namespace Go.Proofs.YtcgmohldcokccaaGreatDoor
open Go.RowKit
open Pu Gp Ap Vp Np Za Ka Ja Ea Ha Hg Hi
set_option maxRecDepth 100000
theorem zr2:(∀x a b c d e f g h i j k:Nat,x<x+1+a+b+c+d+e+f+g+h+i+j+k)/\(∀x a b c d e f g h i j k l:Nat,x<x+1+a+b+c+d+e+f+g+h+i+j+k+l)/\(∀x a b c d e f g h i j k l m:Nat,x<x+1+a+b+c+d+e+f+g+h+i+j+k+l+m)/\(∀x a b c d e f g h i j k l m n:Nat,x<x+1+a+b+c+d+e+f+g+h+i+j+k+l+m+n)/\(∀x a b c d e f g h i j k l m n o:Nat,x<x+1+a+b+c+d+e+f+g+h+i+j+k+l+m+n+o)/\(∀x a b c d e f g h i j k l m n o p:Nat,x<x+1+a+b+c+d+e+f+g+h+i+j+k+l+m+n+o+p)/\(∀x a b c d e f g h i j k l m n o p q:Nat,x<x+1+a+b+c+d+e+f+g+h+i+j+k+l+m+n+o+p+q):=by
 refine⟨?_,?_,?_,?_,?_,?_,?_⟩<;>intros<;>omega
attribute [local go_sem] zr Y8 zr2
theorem QK{α:Type}{K:Kd α}{e:TypeId}{w:World}{B g n cap:Nat}{L:List α}{x:α}(h:OwG K e w B (.slice (some ⟨g,0,none⟩) (n+1) cap) (L ++ [x]))(hl:L.length=n)(hm:n<=281474976710656):Sl K w (.slice (some ⟨g,0,none⟩) n cap) L:=by
 subst hl;exact⟨_,cap,rfl,Jk h,fun h=>(by cases h),h.rd hm⟩
def Lnt(w:World)(B:Nat)(W:Wd)(g0 c0 g1 c1 g2 c2 g3 c3 k1 k2 k3 k4:Nat):Prop:=OwG KM 59 w B (.slice (some ⟨g0,0,none⟩) (k1+1) c0) (W.ms ++ [m7])/\OwG KC 67 w B (.slice (some ⟨g1,0,none⟩) (k2+1) c1) (W.cs ++ [c7])/\OwG KS 69 w B (.slice (some ⟨g2,0,none⟩) (k3+1) c2) (W.hs ++ [s7])/\OwG KQ 71 w B (.slice (some ⟨g3,0,none⟩) (k4+1) c3) (W.ks ++ [p7])
theorem Lnt.still{w w':World}{B:Nat}{W:Wd}{g0 c0 g1 c1 g2 c2 g3 c3 k1 k2 k3 k4:Nat}(h:Lnt w B W g0 c0 g1 c1 g2 c2 g3 c3 k1 k2 k3 k4)(hs:Yc w w'):Lnt w' B W g0 c0 g1 c1 g2 c2 g3 c3 k1 k2 k3 k4:=⟨h.1.still hs,h.2.1.still hs,h.2.2.1.still hs,h.2.2.2.still hs⟩
theorem Lnt.rd{w:World}{B:Nat}{W:Wd}{g0 c0 g1 c1 g2 c2 g3 c3 k1 k2 k3 k4:Nat}{fr nx:Int}(h:Lnt w B W g0 c0 g1 c1 g2 c2 g3 c3 k1 k2 k3 k4)(hf:W.fr=fr/\W.nx=nx)(he:W.ms.length=k1/\W.cs.length=k2/\W.hs.length=k3/\W.ks.length=k4)(hb:k1<=281474976710656/\k2<=281474976710656/\k3<=281474976710656/\k4<=281474976710656):RdW w (.agg (Ye fr nx (.slice (some ⟨g0,0,none⟩) k1 c0) (.slice (some ⟨g1,0,none⟩) k2 c1) (.slice (some ⟨g2,0,none⟩) k3 c2) (.slice (some ⟨g3,0,none⟩) k4 c3))) W:=by
 obtain⟨rfl,rfl⟩:=hf;exact⟨_,_,_,_,rfl,QK h.1 he.1 hb.1,QK h.2.1 he.2.1 hb.2.1,QK h.2.2.1 he.2.2.1 hb.2.2.1,QK h.2.2.2 he.2.2.2 hb.2.2.2⟩
theorem TC(p q C R:Int)(s:ByteArray)(lo:Option Addr)(ln lc:Nat)(W:Wd)(V:Ws)(hf0:W.fr=V.fr/\W.nx=V.nx)(xo:Option Addr)(n xcp:Nat)(L:List Cm)(hc:(n+1)*56<=140737488355328)(w:World)(h1:RdG KM w V.a V.l1 W.ms)(h2:RdG KC w V.b V.l2 W.cs)(h3:RdG KS w V.c V.l3 W.hs)(h4:RdG KQ w V.d V.l4 W.ks)(hb:(V.l1+1)*104<=140737488355328/\(V.l2+1)*32<=140737488355328/\(V.l3+1)*64<=140737488355328/\(V.l4+1)*24<=140737488355328)(hx:RdG KX w xo n L)(S:Int)(X:Wd)(Y:List Nn)(hX:DN X)
  (hv:RdW w (.agg V.cs) W)
  (hA:∀u,Yc w u->Ya 6 #[] u (.bool true))
  (hP:∀v u yo yc,Yc w u->RdW u v W->RdG KX u yo n L->Calls Tryz.prog 9 #[.agg #[.int .i64 p,.int .u64 q,.int .i64 C,.int .i64 R,.string s,.slice lo ln lc],v,.slice yo n yc] u fun e w'=>StS u w' X Y S e)
  (hD:∀v u yo yc,Yc w u->RdW u v W->RdG KX u yo n L->Calls Tryz.prog 10 #[.agg #[.int .i64 p,.int .u64 q,.int .i64 C,.int .i64 R,.string s,.slice lo ln lc],v,.slice yo n yc] u fun e w'=>StS u w' X Y S e) :
  Ya 3 #[.agg #[.int .i64 p,.int .u64 q,.int .i64 C,.int .i64 R,.string s,.slice lo ln lc],.agg V.cs,.slice xo n xcp] w (.bool true):=by
 have HA:=hid hA;have HP:=hid hP;have HD:=hid hD;have HX:=hid hx;have HV:=hid hv;have HR:=hid (And.intro h1 (And.intro h2 (And.intro h3 h4)));have HB:=hid hb;have HXl:=hid hX;have HE:=hid (And.intro h1.1 (And.intro h2.1 (And.intro h3.1 h4.1)));have HM:=hid (And.intro h1.2.1 (And.intro h2.2.1 (And.intro h3.2.1 h4.2.1)));have HL:=hid hx.1;obtain⟨fr,nx,xa,k1,ya,xb,k2,yb,xc,k3,yc,xd,k4,yd⟩:=V;clear hA hP hD hx hv h1 h2 h3 h4 hb hX;unfold Ya;go_in;go_wp2_with fail
 refine zc (HA.o _ zst) ?_;intro J0 n0
 go_wp2_with fail;refine(Yak W fr nx xa xb xc xd k1 k2 k3 k4 ya yb yc yd _ (HR.o.1.still zst) (HR.o.2.1.still zst) (HR.o.2.2.1.still zst) (HR.o.2.2.2.still zst) HB.o).mono ?_;rintro e w1 ⟨g0,c0,g1,c1,g2,c2,g3,c3,rfl,o0,o1,o2,o3,h1⟩;obtain⟨J1,n1,rfl⟩:=h1.more;have HO:Hid (Lnt _ _ W g0 c0 g1 c1 g2 c2 g3 c3 k1 k2 k3 k4):=hid ⟨o0,o1,o2,o3⟩;clear o0 o1 o2 o3 h1;go_wp2_with fail;refine(Yal L xo n xcp _ (HX.o.still zst) hc).mono ?_;rintro e w1 ⟨g4,c4,rfl,o4,h1⟩;obtain⟨J2,n2,rfl⟩:=h1.more;have HO4:=hid o4;clear o4 h1;go_wp2_with fail;refine(HP.o _ _ _ _ zst ((HO.o.still zst).rd hf0 HE.o HM.o) (TA (HO4.o.still zst) HL.o (by omega))).mono ?_;rintro e w6 ⟨⟨f3,x3,a3,l3,ca3,b3,m3,cb3,c3',k3',cc3,d3,j3,cd3⟩,zo,zc0,rfl,o3,p3,h6⟩;obtain⟨J3,n3,rfl⟩:=h6.more;have O3:=hid o3;have P3:=hid p3;clear h6 o3 p3;go_wp2_with fail;refine(HD.o _ _ _ _ zst (HV.o.still zst) (HX.o.still zst)).mono ?_;rintro e w6 ⟨⟨f4,x4,a4,l4,ca4,b4,m4,cb4,c4',k4',cc4,d4,j4,cd4⟩,yo,yc0,rfl,o4,p4,h6⟩;obtain⟨J4,n4,rfl⟩:=h6.more;have O4:=hid o4;have P4:=hid p4;clear h6 o4 p4;go_wp2_with fail;refine zc (Qi X _ _ _ ((O3.o.rd HXl.o).still zst) ((O4.o.rd HXl.o).still zst)) ?_;intro J5 n5
 go_wp2_with fail;refine zc (T9 Y _ _ zo yo zc0 yc0 _ (P3.o.still zst) (P4.o.still zst)) ?_;intro J6 n6
 go_wp2_with fail;refine zc (TB W fr nx g0 c0 g1 c1 g2 c2 g3 c3 xa xb xc xd k1 k2 k3 k4 ya yb yc yd _ _ (HO.o.1.still zst) (HO.o.2.1.still zst) (HO.o.2.2.1.still zst) (HO.o.2.2.2.still zst) ((HO.o.still zst).rd hf0 HE.o HM.o) (HV.o.still zst) HE.o HM.o) ?_;intro J7 n7
 go_wp2_with fail;refine zc (Yaq L _ g4 n c4 xo xcp _ (HO4.o.still zst) (HX.o.still zst)) ?_;intro J8 n8
 go_wp2_with fail;have q1:l3=X.ms.length:=(Xl O3.o.o1).1;have q2:m3=X.cs.length:=(Xl O3.o.o2).1;have q3:k3'=X.hs.length:=(Xl O3.o.o3).1;have q4:j3=X.ks.length:=(Xl O3.o.o4).1;refine(Yar f3 x3 a3 b3 c3' d3 l3 m3 k3' j3 ca3 cb3 cc3 cd3 X.ms X.cs X.hs X.ks _ (w.heap.size+1+1+J0.size+J1.size+1+J2.size+J3.size) _ ⟨q1.symm,q2.symm,q3.symm,q4.symm⟩ ⟨O3.o.o1.still zst,O3.o.o2.still zst,O3.o.o3.still zst,O3.o.o4.still zst⟩ ⟨by rw[q1];exact HXl.o.1,by rw[q2];exact HXl.o.2.1,by rw[q3];exact HXl.o.2.2.1,by rw[q4];exact HXl.o.2.2.2⟩ ⟨fun g e=>?_,fun g e=>?_,fun g e=>?_,fun g e=>?_⟩).mono ?_
 ·subst e;have:=(O3.o.o1.block (k:=g) rfl).2;simp only[World.size_alloc,zr]at this;omega
 ·subst e;have:=(O3.o.o2.block (k:=g) rfl).2;simp only[World.size_alloc,zr]at this;omega
 ·subst e;have:=(O3.o.o3.block (k:=g) rfl).2;simp only[World.size_alloc,zr]at this;omega
 ·subst e;have:=(O3.o.o4.block (k:=g) rfl).2;simp only[World.size_alloc,zr]at this;omega
 rintro e w9 ⟨rfl,hf9,hT9⟩;have HN9:=hid ((P3.o.still zst).keepT hT9 (by decide));have hf9':=hf9;simp only[World.size_alloc,zr]at hf9';have HF:=hid hf9';have hgD:∀g,zo=some ⟨g,0,none⟩->g<w.heap.size+1+1+J0.size+J1.size+1+J2.size+J3.size:=by
  intro g e;subst e
  have:=(P3.o.block (k:=g) rfl).2;simp only[World.size_alloc,zr]at this;omega
 have HG:=hid hgD;have hm:=T7 P3.o;have HN:Hid (OwG KN 47 w9 (w.heap.size+1+1+J0.size+J1.size+1+J2.size) (.slice zo Y.length zc0) Y):=hid (by have:=HN9.o;simpa only[World.size_alloc,zr]using this);clear O3 P3 hf9 hf9' hT9 HN9 hgD q1 q2 q3 q4;obtain⟨B,eB⟩:∃B,w.heap.size+1+1+J0.size+J1.size+1+J2.size=B:=⟨_,rfl⟩;obtain⟨D,eD⟩:∃D,w.heap.size+1+1+J0.size+J1.size+1+J2.size+J3.size=D:=⟨_,rfl⟩;rw[eD]at HG;rw[eB]at HN;rw[eD,eB]at HF;have HEQ:=hid (And.intro eB eD);clear eB eD;go_wp2_with fail;go_loopw [20] (fun u wr=>∃(i:Nat) (N:List Nn),i<=Y.length/\u=.int .i64 (i:Int)/\N.length=Y.length/\OwG KN 47 wr B (.slice zo Y.length zc0) N/\Fr (DR B D) w9 wr) (fun u _=>Y.length-(intOf u).toNat);case atStart=>exact⟨0,Y,by omega,rfl,rfl,HN.o,Fr.refl _ _⟩
 case round =>
  clear HN;obtain⟨i,N,hi,rfl,hN,o,hf⟩:=hrel;by_cases hin:i<Y.length
  ·have hlt:(i:Int)<(Y.length:Int):=by omega
   obtain⟨gm,cpm,hv,hv1,hv2⟩:=o.head (by omega);simp only[Value.slice.injEq]at hv;obtain⟨rfl,hv3,hv4⟩:=hv;have d0:wr.cell? ⟨gm,i*3,none⟩=some (.int .i64 (N.getD i zNn).k):=o.get (by omega) 0 _ rfl;have d1:wr.cell? ⟨gm,i*3+1,none⟩=some (.int .i64 (N.getD i zNn).a):=o.get (by omega) 1 _ rfl;have d2:wr.cell? ⟨gm,i*3+2,none⟩=some (.int .i64 (N.getD i zNn).b):=o.get (by omega) 2 _ rfl;have df:=o.frozen;have hsub:IntKind.i64.wrap (-1-(i:Int))=-1-(i:Int):=by rw[IntKind.wrap_i64];omega
   obtain⟨W4,eW4⟩:∃W,(((wr.setCell ⟨gm,i*3,none⟩ (.int .i64 (-1-(i:Int)))).setCell ⟨gm,i*3+1,none⟩ (.int .i64 0)).setCell ⟨gm,i*3+2,none⟩ (.int .i64 0))=W:=⟨_,rfl⟩;have HP4:Hid (OwG KN 47 W4 B (.slice (some ⟨gm,0,none⟩) Y.length zc0) (N.set i ⟨-1-(i:Int),0,0⟩)):=hid (by rw[<- eW4];exact o.put (i:=i) (by omega) ⟨-1-(i:Int),0,0⟩);have HF4:Hid (Fr (DR B D) w9 W4):=hid (by rw[<- eW4];exact UP gm (KN.f ⟨-1-(i:Int),0,0⟩) (i*3) wr hf (.inl ⟨hv1,HG.o gm rfl⟩));obtain⟨zz,ezz⟩:∃z,N.getD i zNn=z:=⟨_,rfl⟩;rw[ezz]at d0 d1 d2;clear o hf hv1 hv2 hv3 hv4 ezz;go_wp2_with fail;go_roundw;case rel=>exact⟨i+1,N.set i ⟨-1-(i:Int),0,0⟩,by omega,by go_num,by simpa using hN,HP4.o,HF4.o⟩
   case measure=>first|(simp[intOf];done)|(simp[intOf];omega)
  have hge:¬(i:Int)<(Y.length:Int):=by omega
  obtain⟨eB,eD⟩:=HEQ.o;have hfr:=Fr.trans HF.o hf (fun _ _ h=>h);have hs5:Yc (more ((more (more ((w.alloc (.cells #[.int .i64 p,.int .u64 q,.int .i64 C,.int .i64 R,.string s,.slice lo ln lc] 27)).alloc (.cells (Ye fr nx (.slice xa k1 ya) (.slice xb k2 yb) (.slice xc k3 yc) (.slice xd k4 yd)) 33)) J0 n0) J1 n1).alloc (.cells (Ye fr nx (.slice (some ⟨g0,0,none⟩) k1 c0) (.slice (some ⟨g1,0,none⟩) k2 c1) (.slice (some ⟨g2,0,none⟩) k3 c2) (.slice (some ⟨g3,0,none⟩) k4 c3)) 33)) J2 n2) wr:=Fr.trans zst hfr (fun k hk h=>by have:=h.1;simp only[World.size_alloc,zr]at hk;omega);have O4r:=hid (On4.go (O4.o.still zst) hfr (fun k h=>by have:=h.2;simp only[World.size_alloc,zr];omega) (Nat.le_refl _));have P4r:=hid ((P4.o.still zst).keepB hfr (fun k h=>by have:=h.2;simp only[World.size_alloc,zr];omega));have hub:wr.heap[w.heap.size+1+1+J0.size+J1.size+1+J2.size+J3.size+1+J4.size]?=some (.cells (Ye f4 x4 (.slice a4 l4 ca4) (.slice b4 m4 cb4) (.slice c4' k4' cc4) (.slice d4 j4 cd4)) 33):=hfr.kept zbk (fun h=>by have:=h.2;omega);obtain⟨gu,egu⟩:∃x,(w.heap.size+1+1+J0.size+J1.size+1+J2.size+J3.size+1+J4.size)=x:=⟨_,rfl⟩;rw[egu]at hub⊢;have hgu:w.heap.size+1+1+J0.size+J1.size+1+J2.size<=gu:=by omega
  clear O4 P4 hfr HF HG HEQ eB eD egu hf o;obtain⟨J,n8',K,k8',rfl,e8⟩:=Gb hs5 (by simpa only[World.size_alloc,zr]using hgu) hub;simp only[World.size_alloc,zr]at e8;subst e8;clear hub hs5 hgu;go_wp2_with fail;refine zc (TB W fr nx g0 c0 g1 c1 g2 c2 g3 c3 xa xb xc xd k1 k2 k3 k4 ya yb yc yd _ _ (HO.o.1.still zst) (HO.o.2.1.still zst) (HO.o.2.2.1.still zst) (HO.o.2.2.2.still zst) ((HO.o.still zst).rd hf0 HE.o HM.o) (HV.o.still zst) HE.o HM.o) ?_;intro J9 n9
  go_wp2_with fail;refine(HP.o _ _ _ _ zst ((HO.o.still zst).rd hf0 HE.o HM.o) (TA (HO4.o.still zst) HL.o (by omega))).mono ?_;rintro e w6 ⟨⟨f5,x5,a5,l5,ca5,b5,m5,cb5,c5,k5,cc5,d5,j5,cd5⟩,zo5,zc5,rfl,o5,p5,h6⟩;obtain⟨J10,n10,rfl⟩:=h6.more;have O5:=hid o5;have P5:=hid p5;clear h6 o5 p5;go_wp2_with fail;refine zc (Qi X _ _ _ ((O5.o.rd HXl.o).still zst) ((O4r.o.rd HXl.o).still zst)) ?_;intro J11 n11
  go_wp2_with fail;refine zc (T9 Y _ _ zo5 yo zc5 yc0 _ (P5.o.still zst) (P4r.o.still zst)) ?_;intro J12 n12
  go_wp2_with fail;go_ret;exact⟨rfl,zst⟩
attribute [local go_sem] zr Y8
end Go.Proofs.YtcgmohldcokccaaGreatDoor
