import Derived.Test.YtcgmohldcokccaaGreatDoorXR11
import Derived.Deep.AppendLies
set_option linter.unusedVariables false
set_option maxHeartbeats 8000000
set_option maxRecDepth 100000
namespace Go.Proofs.YtcgmohldcokccaaGreatDoor
section
open Go.RowKit
open Pu Gp Ap Vp Np Za Ka Ja Ea Ha
section
variable {α:Type} {e:TypeId}
theorem Kh{P:Program}(K:Kd α)(w:World){ops:Array Oper}{rest:List Oper}{o:Oper}{a:Act}{Q:Exit->Act->World->Prop}(hgd:o.guard=none)(s x:Operand)(t:TypeId)
  (hop:o.op=.call { callee:=.builtin .append,args:=#[s,x],argTypes:=#[t,t] })
  (hu:P.underlying t=some (.slice e)) (bytes:Nat) (hinfo:∃i,P.info? e=some i/\i.zero=some (.agg (K.f K.d).toArray)/\i.size=K.k/\i.bytes=bytes)
  (B g:Nat) (so:Option Addr) (n c:Nat) (L:List α) (hs:a.eval s=.slice (some ⟨g,0,none⟩) 0 0) (hx:a.eval x=.slice so n c) (ho:OwG K e w B (.slice (some ⟨g,0,none⟩) 0 0) []) (hr:RdG K w so n L) (h47:n*bytes<=140737488355328) (hB:B<=w.heap.size)
  (h:∀v' w',OwG K e w' B v' L->Fr (fun k=>g=k) w w'->wpList P ops Q rest (a.put o.dst v') w'):wpList P ops Q (o :: rest) a w:=by
 obtain⟨i,hi,hz,h1,h2⟩:=hinfo;have hl:=hr.1;have hm:=hr.2.1;by_cases h0:0<n
 ·obtain⟨D,off,rfl⟩:=hr.at h0;have hown:w.ownsRow B e K.k (.slice (some ⟨g,0,none⟩) 0 0) 0 ([]:List Value):=ho;refine wpList_append_lies (P:=P) (w:=w) hgd s x t hop B e i (.agg (K.f K.d).toArray) K.k bytes hu hi hz h1 h2 (by simp[Value.cells,K.len]) K.pos _ 0 [] hs hown ⟨D,off,none⟩ n c (K.row L) hx (by rw[K.row_len,hl]) (hr.cellsAt) (K.row_one L) h0 (by unfold maxLen;omega) (by rw[Nat.zero_add];exact h47) hB w.heap.size rfl ?_;intro g' cap w' hown' hgr _ _;refine h _ w' ?_ ⟨hgr.os,hgr.tape,hgr.output,hgr.size,fun k hk hne=>hgr.block k hk (by simpa[Value.ownBlock,eq_comm]using hne)⟩;unfold OwG;rw[List.nil_append,Nat.zero_add]at hown';rw[hl,Nat.zero_add];exact hown'
 ·obtain rfl:n=0:=by omega
  have hL:L=[]:=List.eq_nil_of_length_eq_zero hl;subst hL;refine wpList_plain hgd fun Kk hK=>?_;have hrun:(Builtin.append_ #[t,t] o.type #[.slice (some ⟨g,0,none⟩) 0 0,.slice so 0 c]).run P w=.ok (.slice (some ⟨g,0,none⟩) 0 0) w:=by
   cases so<;>simp[Builtin.append_,run_underlying hu,sizeOf,typeInfo,hi,Builtin.lenOf,Builtin.firstCells,loadCells,loadCellsFrom,storeCells]
  unfold Oper.wp;simp[execOp,hop,resolve,invoke,builtin,hs,hx,hrun,Result.andThen];exact hK _ _ (h _ w ho (Fr.refl _ _))
theorem Ki(K:Kd α)(w:World):OwG K e (w.alloc (.cells #[] e)) w.heap.size (.slice (some ⟨w.heap.size,0,none⟩) 0 0) []:=
 ⟨by simp[Kd.row],.inr ⟨w.heap.size,0,#[],rfl,Nat.le_refl _,heap_alloc_new w _,Nat.le_refl _,Nat.zero_le _,by simp,by simp[Kd.row]⟩⟩
end
theorem VI:∃i,Tryz.prog.info? 69=some i/\i.zero=some (.agg (KS.f KS.d).toArray)/\i.size=KS.k/\i.bytes=64:=⟨_,rfl,rfl,rfl,rfl⟩
theorem Ji:∃i,Tryz.prog.info? 71=some i/\i.zero=some (.agg (KQ.f KQ.d).toArray)/\i.size=KQ.k/\i.bytes=24:=⟨_,rfl,rfl,rfl,rfl⟩
theorem S7(L:List Mv)(ao:Option Addr)(n cap:Nat)(w:World)(hr:RdG KM w ao n L)(hc:ao=none->cap=0)(h47:n*104<=140737488355328) :
  Calls Tryz.prog 102 #[.slice ao n cap] w fun e w'=>∃v,e=.returned v/\OwG KM 59 w' w.heap.size v L/\Yc w w':=by
 have hnil:=fun(W:World)=>Lib.run_eql_slice_nil (P:=Tryz.prog) W 28 59 ao n cap 0 0 Tryz.underlying28;cases ao with
 | none =>
  obtain rfl:cap=0:=hc rfl;obtain rfl:n=0:=by
   rcases hr.2.2 with h|⟨_,_,h,_⟩
   ·exact h
   ·cases h
  obtain rfl:L=[]:=List.eq_nil_of_length_eq_zero hr.1;go_enter Tryz.func102,Tryz.ntmps102;go_wp2_with fail;go_ret;exact⟨_,rfl,OwG.nil _ _,Fr.refl _ _⟩
 | some x =>
  have A0:=sA w (.cells #[] 59);have HO:=hid (Ki (e:=59) KM w);have HR:=hid (hr.sT A0);have HA:=hid A0;clear hr A0 hc;go_enter Tryz.func102,Tryz.ntmps102;go_wp2_with (
   at_builtin;refine Kh KM _ rfl _ _ 28 rfl Tryz.underlying28 104 Qh w.heap.size w.heap.size _ _ _ L rfl rfl HO.o HR.o h47 (by rw[size_alloc];omega) ?_;intro v' w' ho' hf';have HO':=hid ho';have HF':=hid hf';clear ho' hf')
  go_ret;refine⟨_,rfl,HO'.o,Fr.trans HA.o HF'.o (fun k hk e=>by omega)⟩
theorem S8(L:List Scr)(ao:Option Addr)(n cap:Nat)(w:World)(hr:RdG KC w ao n L)(hc:ao=none->cap=0)(h47:n*32<=140737488355328) :
  Calls Tryz.prog 103 #[.slice ao n cap] w fun e w'=>∃v,e=.returned v/\OwG KC 67 w' w.heap.size v L/\Yc w w':=by
 have hnil:=fun(W:World)=>Lib.run_eql_slice_nil (P:=Tryz.prog) W 29 67 ao n cap 0 0 Tryz.underlying29;cases ao with
 | none =>
  obtain rfl:cap=0:=hc rfl;obtain rfl:n=0:=by
   rcases hr.2.2 with h|⟨_,_,h,_⟩
   ·exact h
   ·cases h
  obtain rfl:L=[]:=List.eq_nil_of_length_eq_zero hr.1;go_enter Tryz.func103,Tryz.ntmps103;go_wp2_with fail;go_ret;exact⟨_,rfl,OwG.nil _ _,Fr.refl _ _⟩
 | some x =>
  have A0:=sA w (.cells #[] 67);have HO:=hid (Ki (e:=67) KC w);have HR:=hid (hr.sT A0);have HA:=hid A0;clear hr A0 hc;go_enter Tryz.func103,Tryz.ntmps103;go_wp2_with (
   at_builtin;refine Kh KC _ rfl _ _ 29 rfl Tryz.underlying29 32 Qj w.heap.size w.heap.size _ _ _ L rfl rfl HO.o HR.o h47 (by rw[size_alloc];omega) ?_;intro v' w' ho' hf';have HO':=hid ho';have HF':=hid hf';clear ho' hf')
  go_ret;refine⟨_,rfl,HO'.o,Fr.trans HA.o HF'.o (fun k hk e=>by omega)⟩
theorem S9(L:List Sh)(ao:Option Addr)(n cap:Nat)(w:World)(hr:RdG KS w ao n L)(hc:ao=none->cap=0)(h47:n*64<=140737488355328) :
  Calls Tryz.prog 104 #[.slice ao n cap] w fun e w'=>∃v,e=.returned v/\OwG KS 69 w' w.heap.size v L/\Yc w w':=by
 have hnil:=fun(W:World)=>Lib.run_eql_slice_nil (P:=Tryz.prog) W 30 69 ao n cap 0 0 Tryz.underlying30;cases ao with
 | none =>
  obtain rfl:cap=0:=hc rfl;obtain rfl:n=0:=by
   rcases hr.2.2 with h|⟨_,_,h,_⟩
   ·exact h
   ·cases h
  obtain rfl:L=[]:=List.eq_nil_of_length_eq_zero hr.1;go_enter Tryz.func104,Tryz.ntmps104;go_wp2_with fail;go_ret;exact⟨_,rfl,OwG.nil _ _,Fr.refl _ _⟩
 | some x =>
  have A0:=sA w (.cells #[] 69);have HO:=hid (Ki (e:=69) KS w);have HR:=hid (hr.sT A0);have HA:=hid A0;clear hr A0 hc;go_enter Tryz.func104,Tryz.ntmps104;go_wp2_with (
   at_builtin;refine Kh KS _ rfl _ _ 30 rfl Tryz.underlying30 64 VI w.heap.size w.heap.size _ _ _ L rfl rfl HO.o HR.o h47 (by rw[size_alloc];omega) ?_;intro v' w' ho' hf';have HO':=hid ho';have HF':=hid hf';clear ho' hf')
  go_ret;refine⟨_,rfl,HO'.o,Fr.trans HA.o HF'.o (fun k hk e=>by omega)⟩
theorem SA(L:List Pk)(ao:Option Addr)(n cap:Nat)(w:World)(hr:RdG KQ w ao n L)(hc:ao=none->cap=0)(h47:n*24<=140737488355328) :
  Calls Tryz.prog 105 #[.slice ao n cap] w fun e w'=>∃v,e=.returned v/\OwG KQ 71 w' w.heap.size v L/\Yc w w':=by
 have hnil:=fun(W:World)=>Lib.run_eql_slice_nil (P:=Tryz.prog) W 31 71 ao n cap 0 0 Tryz.underlying31;cases ao with
 | none =>
  obtain rfl:cap=0:=hc rfl;obtain rfl:n=0:=by
   rcases hr.2.2 with h|⟨_,_,h,_⟩
   ·exact h
   ·cases h
  obtain rfl:L=[]:=List.eq_nil_of_length_eq_zero hr.1;go_enter Tryz.func105,Tryz.ntmps105;go_wp2_with fail;go_ret;exact⟨_,rfl,OwG.nil _ _,Fr.refl _ _⟩
 | some x =>
  have A0:=sA w (.cells #[] 71);have HO:=hid (Ki (e:=71) KQ w);have HR:=hid (hr.sT A0);have HA:=hid A0;clear hr A0 hc;go_enter Tryz.func105,Tryz.ntmps105;go_wp2_with (
   at_builtin;refine Kh KQ _ rfl _ _ 31 rfl Tryz.underlying31 24 Ji w.heap.size w.heap.size _ _ _ L rfl rfl HO.o HR.o h47 (by rw[size_alloc];omega) ?_;intro v' w' ho' hf';have HO':=hid ho';have HF':=hid hf';clear ho' hf')
  go_ret;refine⟨_,rfl,HO'.o,Fr.trans HA.o HF'.o (fun k hk e=>by omega)⟩
theorem SB(L:List Cm)(ao:Option Addr)(n cap:Nat)(w:World)(hr:RdG KX w ao n L)(hc:ao=none->cap=0)(h47:n*56<=140737488355328) :
  Calls Tryz.prog 42 #[.slice ao n cap] w fun e w'=>∃v,e=.returned v/\OwG KX 63 w' w.heap.size v L/\Yc w w':=by
 have hnil:=fun(W:World)=>Lib.run_eql_slice_nil (P:=Tryz.prog) W 34 63 ao n cap 0 0 Tryz.underlying34;cases ao with
 | none =>
  obtain rfl:cap=0:=hc rfl;obtain rfl:n=0:=by
   rcases hr.2.2 with h|⟨_,_,h,_⟩
   ·exact h
   ·cases h
  obtain rfl:L=[]:=List.eq_nil_of_length_eq_zero hr.1;go_enter Tryz.func42,Tryz.ntmps42;go_wp2_with fail;go_ret;exact⟨_,rfl,OwG.nil _ _,Fr.refl _ _⟩
 | some x =>
  have A0:=sA w (.cells #[] 63);have HO:=hid (Ki (e:=63) KX w);have HR:=hid (hr.sT A0);have HA:=hid A0;clear hr A0 hc;go_enter Tryz.func42,Tryz.ntmps42;go_wp2_with (
   at_builtin;refine Kh KX _ rfl _ _ 34 rfl Tryz.underlying34 56 UV w.heap.size w.heap.size _ _ _ L rfl rfl HO.o HR.o h47 (by rw[size_alloc];omega) ?_;intro v' w' ho' hf';have HO':=hid ho';have HF':=hid hf';clear ho' hf')
  go_ret;refine⟨_,rfl,HO'.o,Fr.trans HA.o HF'.o (fun k hk e=>by omega)⟩
end
section
open Go.RowKit
open Pu Gp Ap Vp Np Za Ka Ja Ea Ha Hg
theorem Wdb.ty{w:World}{g:Nat}{fr nx:Int}{a b c d:Value}(h:Wdb w g fr nx a b c d):Tyk w g 33:=⟨_,h⟩
theorem Wdb.other{w:World}{g k o:Nat}{fr nx:Int}{a b c d v:Value}(h:Wdb w g fr nx a b c d)(hk:g≠k):Wdb (w.setCell ⟨k,o,none⟩ v) g fr nx a b c d:=by
 unfold Wdb at h⊢;rw[heap_setCell_other _ _ _ _ hk];exact h
theorem Wdb.s1{w:World}{g:Nat}{fr nx:Int}{a b c d:Value}(h:Wdb w g fr nx a b c d)(v:Value):Wdb (w.setCell ⟨g,1,none⟩ v) g fr nx v b c d:=(heap_setCell_same w g 1 _ _ v h).trans (by kernel_rfl)
theorem Wdb.s2{w:World}{g:Nat}{fr nx:Int}{a b c d:Value}(h:Wdb w g fr nx a b c d)(v:Value):Wdb (w.setCell ⟨g,2,none⟩ v) g fr nx a v c d:=(heap_setCell_same w g 2 _ _ v h).trans (by kernel_rfl)
theorem Wdb.s3{w:World}{g:Nat}{fr nx:Int}{a b c d:Value}(h:Wdb w g fr nx a b c d)(v:Value):Wdb (w.setCell ⟨g,3,none⟩ v) g fr nx a b v d:=(heap_setCell_same w g 3 _ _ v h).trans (by kernel_rfl)
theorem Wdb.s4{w:World}{g:Nat}{fr nx:Int}{a b c d:Value}(h:Wdb w g fr nx a b c d)(v:Value):Wdb (w.setCell ⟨g,4,none⟩ v) g fr nx a b c v:=(heap_setCell_same w g 4 _ _ v h).trans (by kernel_rfl)
theorem Wdb.put{w:World}{g:Nat}{fr nx:Int}{a b c d:Value}(h0:Wdb w g fr nx a b c d)(fr' nx':Int)(a' b' c' d':Value):Wdb ((((((w.setCell ⟨g,0,none⟩ (.int .i64 fr')).setCell ⟨g,1,none⟩ a').setCell ⟨g,2,none⟩ b').setCell ⟨g,3,none⟩ c').setCell ⟨g,4,none⟩ d').setCell ⟨g,5,none⟩ (.int .i64 nx')) g fr' nx' a' b' c' d':=by
 unfold Wdb at h0⊢;have h1:=heap_setCell_same _ g 0 _ _ (.int .i64 fr') h0;have h2:=heap_setCell_same _ g 1 _ _ a' h1;have h3:=heap_setCell_same _ g 2 _ _ b' h2;have h4:=heap_setCell_same _ g 3 _ _ c' h3;have h5:=heap_setCell_same _ g 4 _ _ d' h4;have h6:=heap_setCell_same _ g 5 _ _ (.int .i64 nx') h5;exact h6.trans (by kernel_rfl)
theorem Wdb.load{w:World}{g:Nat}{fr nx:Int}{ao bo co so:Option Addr}{n1 n2 n3 n4 c1 c2 c3 c4:Nat}(h:Wdb w g fr nx (.slice ao n1 c1) (.slice bo n2 c2) (.slice co n3 c3) (.slice so n4 c4)):(loadVar 33 ⟨g,0,none⟩).run Tryz.prog w=.ok (.agg (Yf fr nx (.slice ao n1 c1) (.slice bo n2 c2) (.slice co n3 c3) (.slice so n4 c4))) w:=by
 obtain⟨c0,c1,c2,c3,c4,c5,cf⟩:=h.cells;go_simp
theorem Wdb.res1{fn:Func}{p:Tmp}{w:World}{g:Nat}{fr nx:Int}{ao bo co so:Option Addr}{n1 n2 n3 n4 c1 c2 c3 c4:Nat}(hb:Wdb w g fr nx (.slice ao n1 c1) (.slice bo n2 c2) (.slice co n3 c3) (.slice so n4 c4))(h:fn.results=#[.cell p 33])(tmps:Array Value)(hp:tmps.getD p undef=.pointer (some ⟨g,0,none⟩)) :
  (results fn tmps).run Tryz.prog w=.ok (.agg (Yf fr nx (.slice ao n1 c1) (.slice bo n2 c2) (.slice co n3 c3) (.slice so n4 c4))) w:=by
 have hp':tmps[p]?.getD undef=.pointer (some ⟨g,0,none⟩):=by simpa using hp
 simp[results,h,hp',asAddr,hb.load]
def OwW(w:World)(B:Nat)(v:Value)(W:Wd):Prop:=∃a b c d,v=.agg (Yf W.fr W.nx a b c d)/\OwG KM 59 w B a W.ms/\OwG KC 67 w B b W.cs/\OwG KS 69 w B c W.hs/\OwG KQ 71 w B d W.ks
theorem OwG.set6{α:Type}{K:Kd α}{e t:TypeId}{w:World}{B g:Nat}{v:Value}{L:List α}(h:OwG K e w B v L)(hg:Tyk w g t)(ht:e≠t)(v0 v1 v2 v3 v4 v5:Value):OwG K e ((((((w.setCell ⟨g,0,none⟩ v0).setCell ⟨g,1,none⟩ v1).setCell ⟨g,2,none⟩ v2).setCell ⟨g,3,none⟩ v3).setCell ⟨g,4,none⟩ v4).setCell ⟨g,5,none⟩ v5) B v L:=
 (((((h.setO hg ht v0).setO (hg.set v0) ht v1).setO ((hg.set v0).set v1) ht v2).setO (((hg.set v0).set v1).set v2) ht v3).setO ((((hg.set v0).set v1).set v2).set v3) ht v4).setO (((((hg.set v0).set v1).set v2).set v3).set v4) ht v5
theorem Uv{x w:World}{g:Nat}(h:Yc x w)(hg:x.heap.size<=g)(v0 v1 v2 v3 v4 v5:Value):Yc x ((((((w.setCell ⟨g,0,none⟩ v0).setCell ⟨g,1,none⟩ v1).setCell ⟨g,2,none⟩ v2).setCell ⟨g,3,none⟩ v3).setCell ⟨g,4,none⟩ v4).setCell ⟨g,5,none⟩ v5):=
 (((((Fr.setCell h _ v0 (.inr hg)).setCell _ v1 (.inr hg)).setCell _ v2 (.inr hg)).setCell _ v3 (.inr hg)).setCell _ v4 (.inr hg)).setCell _ v5 (.inr hg)
theorem Q2{n b:Nat}(h:n<=48)(hb:b<=200):n*b<=140737488355328:=by
 have:=Nat.mul_le_mul h hb;omega
theorem SC(W:Wd)(v:Value)(w:World)(hv:RdW w v W)(h1:W.ms.length<=48)(h2:W.cs.length<=48)(h3:W.hs.length<=48)(h4:W.ks.length<=48) :
  Calls Tryz.prog 58 #[v] w fun e w'=>∃u,e=.returned u/\OwW w' w.heap.size u W/\Yc w w':=by
 obtain⟨a,b,c,d,rfl,⟨ao,ac,rfl,l1,ha,hra⟩,⟨bo,bc,rfl,l2,hb,hrb⟩,⟨co,cc,rfl,l3,hc,hrc⟩,⟨so,dc,rfl,l4,hd,hrd⟩⟩:=hv;clear l1 l2 l3 l4;obtain⟨n1,e1⟩:∃n,W.ms.length=n:=⟨_,rfl⟩;obtain⟨n2,e2⟩:∃n,W.cs.length=n:=⟨_,rfl⟩;obtain⟨n3,e3⟩:∃n,W.hs.length=n:=⟨_,rfl⟩;obtain⟨n4,e4⟩:∃n,W.ks.length=n:=⟨_,rfl⟩;rw[e1]at h1 hra⊢;rw[e2]at h2 hrb⊢;rw[e3]at h3 hrc⊢;rw[e4]at h4 hrd⊢;obtain⟨fr,efr⟩:∃n,W.fr=n:=⟨_,rfl⟩;obtain⟨nx,enx⟩:∃n,W.nx=n:=⟨_,rfl⟩;have EN:=hid (And.intro efr enx);have EL:=hid (And.intro e1 (And.intro e2 (And.intro e3 e4)));rw[efr,enx];have A0:=sA w (.cells (Yf fr nx (.slice ao n1 ac) (.slice bo n2 bc) (.slice co n3 cc) (.slice so n4 dc)) 33);have A1:=sA (XP w fr nx (.slice ao n1 ac) (.slice bo n2 bc) (.slice co n3 cc) (.slice so n4 dc)) (.cells (Yf 0 0 (.slice none 0 0) (.slice none 0 0) (.slice none 0 0) (.slice none 0 0)) 33);have p0:=(Zw w fr nx (.slice ao n1 ac) (.slice bo n2 bc) (.slice co n3 cc) (.slice so n4 dc)).sT A1;have r0:=Zw (XP w fr nx (.slice ao n1 ac) (.slice bo n2 bc) (.slice co n3 cc) (.slice so n4 dc)) 0 0 (.slice none 0 0) (.slice none 0 0) (.slice none 0 0) (.slice none 0 0);rw[size_alloc]at r0;have HS0:=hid (A0.trans A1);have HP0:Hid (Wdb ((w.alloc (.cells (Yf fr nx (.slice ao n1 ac) (.slice bo n2 bc) (.slice co n3 cc) (.slice so n4 dc)) 33)).alloc (.cells (Yf 0 0 (.slice none 0 0) (.slice none 0 0) (.slice none 0 0) (.slice none 0 0)) 33)) w.heap.size fr nx (.slice ao n1 ac) (.slice bo n2 bc) (.slice co n3 cc) (.slice so n4 dc)):=hid p0;have HQ0:Hid (Wdb ((w.alloc (.cells (Yf fr nx (.slice ao n1 ac) (.slice bo n2 bc) (.slice co n3 cc) (.slice so n4 dc)) 33)).alloc (.cells (Yf 0 0 (.slice none 0 0) (.slice none 0 0) (.slice none 0 0) (.slice none 0 0)) 33)) (w.heap.size+1) 0 0 (.slice none 0 0) (.slice none 0 0) (.slice none 0 0) (.slice none 0 0)):=hid r0;obtain⟨W0,eW0⟩:∃X,((w.alloc (.cells (Yf fr nx (.slice ao n1 ac) (.slice bo n2 bc) (.slice co n3 cc) (.slice so n4 dc)) 33)).alloc (.cells (Yf 0 0 (.slice none 0 0) (.slice none 0 0) (.slice none 0 0) (.slice none 0 0)) 33))=X:=⟨_,rfl⟩;rw[eW0]at HS0 HP0 HQ0;have HRa:=hid hra;have HRb:=hid hrb;have HRc:=hid hrc;have HRd:=hid hrd;have Hna:=hid ha;have Hnb:=hid hb;have Hnc:=hid hc;have Hnd:=hid hd;obtain⟨c0,c1,c2,c3,c4,c5,cf⟩:=HP0.o.cells;clear A0 A1 p0 r0 hra hrb hrc hrd ha hb hc hd efr enx e1 e2 e3 e4;go_enter Tryz.func58,Tryz.ntmps58;go_wp2_with fail;refine(S7 W.ms ao n1 ac W0 (HRa.o.sT HS0.o) Hna.o (Q2 h1 (by decide))).mono ?_;rintro e w1 ⟨u1,rfl,ho,hs⟩;obtain⟨x1,y1,hx1,_⟩:=ho.slice;rw[EL.o.1]at hx1;subst hx1;have HPx:=hid (HP0.o.sT hs);have HQx:=hid (HQ0.o.sT hs);have HOx:=hid (ho.less (B':=w.heap.size) (HS0.o.size));have HSx:Hid (Yc w w1):=hid (Yc.trans HS0.o hs);have HP1:=hid (HPx.o.s1 (.slice x1 n1 y1));have HQ1:=hid (HQx.o.other (k:=w.heap.size) (o:=1) (v:=(.slice x1 n1 y1)) (by omega));have HS1:Hid (Yc w (w1.setCell ⟨w.heap.size,1,none⟩ (.slice x1 n1 y1))):=hid (Fr.setCell HSx.o ⟨w.heap.size,1,none⟩ (.slice x1 n1 y1) (.inr (Nat.le_refl _)));have HV1:=hid (HOx.o.setO (o:=1) HPx.o.ty (by decide) (.slice x1 n1 y1));obtain⟨d0,d1,d2,d3,d4,d5,df⟩:=HPx.o.cells;obtain⟨W1,eW1⟩:∃X,w1.setCell ⟨w.heap.size,1,none⟩ (.slice x1 n1 y1)=X:=⟨_,rfl⟩;rw[eW1]at HP1 HQ1 HS1 HV1;clear c0 c1 c2 c3 c4 c5 cf ho hs HSx HPx HQx HOx HP0 HQ0 HS0 eW0;obtain⟨c0,c1,c2,c3,c4,c5,cf⟩:=HP1.o.cells;go_wp2_with fail;refine(S8 W.cs bo n2 bc W1 (HRb.o.sT HS1.o) Hnb.o (Q2 h2 (by decide))).mono ?_;rintro e w2 ⟨u2,rfl,ho,hs⟩;obtain⟨x2,y2,hx2,_⟩:=ho.slice;rw[EL.o.2.1]at hx2;subst hx2;have HPx:=hid (HP1.o.sT hs);have HQx:=hid (HQ1.o.sT hs);have HOx:=hid (ho.less (B':=w.heap.size) (HS1.o.size));have HSx:Hid (Yc w w2):=hid (Yc.trans HS1.o hs);have HP2:=hid (HPx.o.s2 (.slice x2 n2 y2));have HQ2:=hid (HQx.o.other (k:=w.heap.size) (o:=2) (v:=(.slice x2 n2 y2)) (by omega));have HS2:Hid (Yc w (w2.setCell ⟨w.heap.size,2,none⟩ (.slice x2 n2 y2))):=hid (Fr.setCell HSx.o ⟨w.heap.size,2,none⟩ (.slice x2 n2 y2) (.inr (Nat.le_refl _)));have HV2:=hid (HOx.o.setO (o:=2) HPx.o.ty (by decide) (.slice x2 n2 y2));have HV1:=hid ((HV1.o.sT hs).setO (o:=2) HPx.o.ty (by decide) (.slice x2 n2 y2));obtain⟨d0,d1,d2,d3,d4,d5,df⟩:=HPx.o.cells;obtain⟨W2,eW2⟩:∃X,w2.setCell ⟨w.heap.size,2,none⟩ (.slice x2 n2 y2)=X:=⟨_,rfl⟩;rw[eW2]at HP2 HQ2 HS2 HV1 HV2;clear c0 c1 c2 c3 c4 c5 cf ho hs HSx HPx HQx HOx HP1 HQ1 HS1;obtain⟨c0,c1,c2,c3,c4,c5,cf⟩:=HP2.o.cells;go_wp2_with fail;refine(S9 W.hs co n3 cc W2 (HRc.o.sT HS2.o) Hnc.o (Q2 h3 (by decide))).mono ?_;rintro e w3 ⟨u3,rfl,ho,hs⟩;obtain⟨x3,y3,hx3,_⟩:=ho.slice;rw[EL.o.2.2.1]at hx3;subst hx3;have HPx:=hid (HP2.o.sT hs);have HQx:=hid (HQ2.o.sT hs);have HOx:=hid (ho.less (B':=w.heap.size) (HS2.o.size));have HSx:Hid (Yc w w3):=hid (Yc.trans HS2.o hs);have HP3:=hid (HPx.o.s3 (.slice x3 n3 y3));have HQ3:=hid (HQx.o.other (k:=w.heap.size) (o:=3) (v:=(.slice x3 n3 y3)) (by omega));have HS3:Hid (Yc w (w3.setCell ⟨w.heap.size,3,none⟩ (.slice x3 n3 y3))):=hid (Fr.setCell HSx.o ⟨w.heap.size,3,none⟩ (.slice x3 n3 y3) (.inr (Nat.le_refl _)));have HV3:=hid (HOx.o.setO (o:=3) HPx.o.ty (by decide) (.slice x3 n3 y3));have HV1:=hid ((HV1.o.sT hs).setO (o:=3) HPx.o.ty (by decide) (.slice x3 n3 y3));have HV2:=hid ((HV2.o.sT hs).setO (o:=3) HPx.o.ty (by decide) (.slice x3 n3 y3));obtain⟨d0,d1,d2,d3,d4,d5,df⟩:=HPx.o.cells;obtain⟨W3,eW3⟩:∃X,w3.setCell ⟨w.heap.size,3,none⟩ (.slice x3 n3 y3)=X:=⟨_,rfl⟩;rw[eW3]at HP3 HQ3 HS3 HV1 HV2 HV3;clear c0 c1 c2 c3 c4 c5 cf ho hs HSx HPx HQx HOx HP2 HQ2 HS2;obtain⟨c0,c1,c2,c3,c4,c5,cf⟩:=HP3.o.cells;go_wp2_with fail;refine(SA W.ks so n4 dc W3 (HRd.o.sT HS3.o) Hnd.o (Q2 h4 (by decide))).mono ?_;rintro e w4 ⟨u4,rfl,ho,hs⟩;obtain⟨x4,y4,hx4,_⟩:=ho.slice;rw[EL.o.2.2.2]at hx4;subst hx4;have HPx:=hid (HP3.o.sT hs);have HQx:=hid (HQ3.o.sT hs);have HOx:=hid (ho.less (B':=w.heap.size) (HS3.o.size));have HSx:Hid (Yc w w4):=hid (Yc.trans HS3.o hs);have HP4:=hid (HPx.o.s4 (.slice x4 n4 y4));have HQ4:=hid (HQx.o.other (k:=w.heap.size) (o:=4) (v:=(.slice x4 n4 y4)) (by omega));have HS4:Hid (Yc w (w4.setCell ⟨w.heap.size,4,none⟩ (.slice x4 n4 y4))):=hid (Fr.setCell HSx.o ⟨w.heap.size,4,none⟩ (.slice x4 n4 y4) (.inr (Nat.le_refl _)));have HV4:=hid (HOx.o.setO (o:=4) HPx.o.ty (by decide) (.slice x4 n4 y4));have HV1:=hid ((HV1.o.sT hs).setO (o:=4) HPx.o.ty (by decide) (.slice x4 n4 y4));have HV2:=hid ((HV2.o.sT hs).setO (o:=4) HPx.o.ty (by decide) (.slice x4 n4 y4));have HV3:=hid ((HV3.o.sT hs).setO (o:=4) HPx.o.ty (by decide) (.slice x4 n4 y4));obtain⟨d0,d1,d2,d3,d4,d5,df⟩:=HPx.o.cells;obtain⟨W4,eW4⟩:∃X,w4.setCell ⟨w.heap.size,4,none⟩ (.slice x4 n4 y4)=X:=⟨_,rfl⟩;rw[eW4]at HP4 HQ4 HS4 HV1 HV2 HV3 HV4;clear c0 c1 c2 c3 c4 c5 cf ho hs HSx HPx HQx HOx HP3 HQ3 HS3;obtain⟨c0,c1,c2,c3,c4,c5,cf⟩:=HP4.o.cells;obtain⟨q0,q1,q2,q3,q4,q5,qf⟩:=HQ4.o.cells;go_wp2_with fail;refine bodyPost_ret (Wdb.res1 (HQ4.o.put fr nx _ _ _ _) rfl _ rfl) rfl ⟨_,rfl,⟨_,_,_,_,by rw[EN.o.1,EN.o.2],?_,?_,?_,?_⟩,?_⟩
 ·exact HV1.o.set6 HQ4.o.ty (by decide) _ _ _ _ _ _
 ·exact HV2.o.set6 HQ4.o.ty (by decide) _ _ _ _ _ _
 ·exact HV3.o.set6 HQ4.o.ty (by decide) _ _ _ _ _ _
 ·exact HV4.o.set6 HQ4.o.ty (by decide) _ _ _ _ _ _
 ·exact Uv HS4.o (by omega) _ _ _ _ _ _
def Jj(G:Gm)(p pw:Int):Gm:=
 if G.w.hs.length<48/\G.w.nx<=1099511627776 then⟨{ G.w with hs:=G.w.hs ++ [YV (mm G.w.ms p.toNat) p pw G.w.nx],nx:=G.w.nx+1 },G.ns ++ [⟨1,p,(YV (mm G.w.ms p.toNat) p pw G.w.nx).no⟩]⟩else G
theorem Fv{o:Oper}{ρ:Operand->Value}{x:Operand}{s:Sh}(ho:o.op=.buildSlice 30 1 #[(0,x)])(hx:ρ x=sv s)(u:World):(execOp ρ o).run Tryz.prog u=.ok (.value (.slice (some ⟨u.heap.size,0,none⟩) 1 1)) (u.alloc (.cells (scs s) 69)):=by
 unfold execOp;rw[ho];simp only[List.map_toArray,List.map_cons,List.map_nil,hx];go_simp;try rfl
theorem SD(x:World)(S:Se)(E:Env)(D:P13 x S.F E)(B g:Nat)(G:Gm)(T N:Nat)(pw:Int)(w:World)(hw:Yc x w)(hB:B<=w.heap.size)(h:FmM B w g S G)(hM:G.w.ms.length=N)(hT:T<N)(hnx:0<=G.w.nx)(h48:G.w.hs.length<=48)(h47:(G.ns.length+1)*24<=140737488355328) :
  Calls Tryz.prog 171 #[.pointer (some ⟨g,0,none⟩),.int .i64 (T:Int),.int .i64 pw] w fun e w'=>(∃v,e=.returned v)/\FmM B w' g S (Jj G (T:Int) pw)/\FrT B [104,69,47] w w':=by
 have HD:=hid D;have H:=hid h;have HLn:=hid h47;have HW:=hid hw;have hTl:(T:Int)<(N:Int):=by omega
 obtain⟨va,vb,vc,vd,ve,hx⟩:=h;obtain⟨gm,cpm,rfl,hgm,hgm2⟩:=hx.o1.head (by omega);obtain⟨so,scp,rfl,hso⟩:=hx.o3.slice;rw[hM]at hx;have HX:=hid hx;have HMl:=hid hM;obtain⟨c0,c1,c2,c3,c4,c5,c6,c7,c8,c9,c10,c11,c12,c13,c14,c15,cf⟩:=hx.k.cells;have HF:Hid (Jj G (T:Int) pw=if G.w.hs.length<48/\G.w.nx<=1099511627776 then⟨{ G.w with hs:=G.w.hs ++ [YV (mm G.w.ms T) (T:Int) pw G.w.nx],nx:=G.w.nx+1 },G.ns ++ [⟨1,(T:Int),(YV (mm G.w.ms T) (T:Int) pw G.w.nx).no⟩]⟩else G):=hid (by
  unfold Jj;rw[Int.toNat_natCast])
 have HFi:=hid (fun u hu=>HD.o.fire (mm G.w.ms T) (T:Int) pw G.w.nx u hu);obtain⟨nx,enx⟩:∃n,G.w.nx=n:=⟨_,rfl⟩;obtain⟨r,er⟩:∃n,G.w.hs.length=n:=⟨_,rfl⟩;have HR:=hid er;have HNx:=hid enx;rw[enx]at HF HFi c13 hnx;rw[er]at HF c11 h48;have HSo:=hid hso;have hgl:=hx.k.lt;clear hx h47 D hgm hgm2 hw hM enx er hso;by_cases h1:(r:Int) ≥ 48
 ·rw[if_neg (by omega)]at HF;have h1':(48:Int)<=(r:Int):=h1;go_enter Tryz.func171,Tryz.ntmps171;go_wp2_with fail;refine bodyPost_ret (results_none rfl _ _ _) rfl ?_;exact⟨⟨_,rfl⟩,by rw[HF.o];exact H.o,FrT.refl _ _ _⟩
 by_cases h2:nx > 1099511627776
 ·rw[if_neg (by omega)]at HF;have h2':(1099511627776:Int)<nx:=h2;go_enter Tryz.func171,Tryz.ntmps171;go_wp2_with fail;refine bodyPost_ret (results_none rfl _ _ _) rfl ?_;exact⟨⟨_,rfl⟩,by rw[HF.o];exact H.o,FrT.refl _ _ _⟩
 rw[if_pos (by omega)]at HF;have h1':¬(48:Int)<=(r:Int):=h1;have h2':¬(1099511627776:Int)<nx:=h2;obtain⟨s1,es⟩:∃s,YV (mm G.w.ms T) (T:Int) pw nx=s:=⟨_,rfl⟩;obtain⟨e1,ee⟩:∃s,ZQ (mm G.w.ms T) (T:Int) pw nx=s:=⟨_,rfl⟩;rw[es]at HF;rw[es,ee]at HFi;obtain⟨m0,em0⟩:∃m,mm G.w.ms T=m:=⟨_,rfl⟩;have EM:=hid em0;rw[em0]at HFi;clear es ee em0;go_enter Tryz.func171,Tryz.ntmps171;go_upto_region 1 with fail;refine ZD 19 6 (.cells (scs zS) 69 (0,0)) (.cells (scs s1) 69 (0,0)) (by kernel_rfl) (by kernel_rfl) (by kernel_rfl) (by kernel_rfl) rfl rfl (fun u b=>Qu rfl u) (fun u=>heap_alloc_new u _) ?_;apply Exists.intro;refine And.intro ?_ (And.intro ?_ ?_)
 ·intro u hu;obtain⟨k0,k1,k2,k3,k4,k5,k6,k7,k8,k9,k10,k11,k12,k13,k14,k15⟩:=(HX.o.sT hu).k.cl;obtain⟨l0,l1,l2,l3,l4,l5,l6,l7,l8,l9,l10,l11,l12⟩:=VE (HX.o.sT hu).o1 (i:=T) (by rw[HMl.o];exact hT) EM.o;have HF2:=hid (fun z:Aft u=>HFi.o z.u (HW.o.trans (hu.trans z.s)));rw[HNx.o]at k13;have hne:=Aft.here u;simp only[Y4,tkd,tkq,Nat.reduceAdd];repeat(go_big_quiet_step ((first|(go_at_call 229;with_reducible exact Calls.cl (HF2.o _)))))
  exact wpQuiet_nil rfl
 ·exact fun u h hh=>Qt rfl rfl rfl hh
 intro w2 g1 h2 hg1 hm1;have p2:Sb w2 g1 s1:=hm1;have HP2:=hid p2;have HS2:=hid h2;have HX2:=hid (HX.o.sT h2);clear c0 c1 c2 c3 c4 c5 c6 c7 c8 c9 c10 c11 c12 c13 c14 c15 cf h2 hm1 HFi HX p2;simp only[Act.put,tks];go_upto_region 2 with fail;refine Kz 7 1 (by kernel_rfl) (by kernel_rfl) (by kernel_rfl) ?_;apply Exists.intro;refine And.intro ?_ (And.intro ?_ ?_)
 ·intro u hu;obtain⟨k0,k1,k2,k3,k4,k5,k6,k7,k8,k9,k10,k11,k12,k13,k14,k15⟩:=(HX2.o.sT hu).k.cl;obtain⟨n0,n1,n2,n3,n4,n5,n6,n7⟩:=(HP2.o.sT hu).cl;have hne:=Aft.here u;simp only[List.take_succ_cons,List.take_zero];repeat(go_big_quiet_step (fail))
  exact wpQuiet_nil rfl
 ·intro _ o ho u hu;obtain rfl:=Option.some.inj ho;exact⟨_,_,Fv rfl rfl u,sA u _⟩
 intro w3 h3;simp only[List.drop_succ_cons,List.drop_zero];have A4:=sA w3 (.cells (scs s1) 69);have hX4:=(HX2.o.sT h3).sT A4;have HX4:=hid hX4;have HO4:=hid hX4.o3;have HY4:Hid ((w3.alloc (.cells (scs s1) 69)).heap[w3.heap.size]?=some (.cells (scs s1) 69 (0,0))):=hid (heap_alloc_new w3 _);have HS4:=hid ((HS2.o.trans h3).trans A4);have HP4:=hid ((HP2.o.sT h3).sT A4);have HB4:Hid (B<=(w3.alloc (.cells (scs s1) 69)).heap.size):=hid (by have:=HS4.o.size;omega);have HL4:Hid ((G.w.hs.length+1)*64<=140737488355328):=hid (by have:=HR.o;omega);clear h3 hX4 A4 HX2 HS2 HP2;go_wp2_with (
  at_builtin;refine ZA KS _ rfl _ _ 30 rfl Tryz.underlying30 64 VI B w3.heap.size _ G.w.hs s1 rfl rfl HO4.o HY4.o HL4.o (by have:=HL4.o;omega) HB4.o ?_;intro v' w' ho' hf';have hT:=HO4.o.frT (ts:=[69]) hf' (Nat.le_refl B) (by simp);have HT:=hid hT;have HO:Hid (OwG KS 69 w' B v' (G.w.hs ++ [s1])):=hid ho';have HFo:Hid (Fr (fun k=>(Value.slice so G.w.hs.length scp).ownBlock=some k) (w3.alloc (.cells (scs s1) 69)) w'):=hid hf';have k1:=HX4.o.k.keepT hT (by decide);have HK:=hid k1;obtain⟨d0,d1,d2,d3,d4,d5,d6,d7,d8,d9,d10,d11,d12,d13,d14,d15,df⟩:=k1.cells;obtain⟨g',cap',rfl,_,_⟩:=ho'.head (by simp);clear hT k1 ho' hf')
 refine⟨rfl,?_⟩;have hg1g:g1≠g:=by omega
 have HX5:Hid (Fx B (w'.setCell ⟨g,11,none⟩ (.slice (some ⟨g',0,none⟩) (G.w.hs.length+1) cap')) g S ⟨{ G.w with hs:=G.w.hs ++ [s1] },G.ns⟩ (.slice (some ⟨gm,0,none⟩) N cpm) vb (.slice (some ⟨g',0,none⟩) (G.w.hs.length+1) cap') vd ve):=hid (by
  have ho:=HO.o;rw[show(G.w.hs ++ [s1]).length=G.w.hs.length+1 by simp]at ho;refine⟨HX4.o.hb,HK.o.setC _,?_,?_,ho.setO HK.o.ty (by decide) _,?_,?_⟩
  ·exact(HX4.o.o1.keepT HT.o (by decide)).setO HK.o.ty (by decide) _
  ·exact(HX4.o.o2.keepT HT.o (by decide)).setO HK.o.ty (by decide) _
  ·exact(HX4.o.o4.keepT HT.o (by decide)).setO HK.o.ty (by decide) _
  ·exact(HX4.o.o5.keepT HT.o (by decide)).setO HK.o.ty (by decide) _)
 have HF5:Hid (FrT B [104,69] w (w'.setCell ⟨g,11,none⟩ (.slice (some ⟨g',0,none⟩) (G.w.hs.length+1) cap'))):=hid (((FrT.of_still HS4.o).trans (HT.o.mono (by simp))).set HK.o.ty (by simp) HX4.o.hb _);have HP5:Hid (Sb (w'.setCell ⟨g,11,none⟩ (.slice (some ⟨g',0,none⟩) (G.w.hs.length+1) cap')) g1 s1):=hid (by
  have h1:Sb w' g1 s1:=HFo.o.kept HP4.o (fun e=>by
   rcases HSo.o with rfl|⟨g2,rfl,_,h2⟩
   ·cases e
   ·have:g2=g1:=by simpa[Value.ownBlock]using e
    omega)
  exact(heap_setCell_other _ _ _ _ hg1g).trans h1)
 obtain⟨W5,eW5⟩:∃W,(w'.setCell ⟨g,11,none⟩ (.slice (some ⟨g',0,none⟩) (G.w.hs.length+1) cap'))=W:=⟨_,rfl⟩;rw[eW5]at HX5 HF5 HP5⊢;clear eW5 HO HFo HT HK HX4 HO4 HY4 HS4 HP4 HB4 HL4 d0 d1 d2 d3 d4 d5 d6 d7 d8 d9 d10 d11 d12 d13 d14 d15 df;obtain⟨c0,c1,c2,c3,c4,c5,c6,c7,c8,c9,c10,c11,c12,c13,c14,c15,cf⟩:=HX5.o.k.cells;rw[show(⟨{ G.w with hs:=G.w.hs ++ [s1] },G.ns⟩:Gm).w.nx=nx from HNx.o]at c13;have hwr:IntKind.i64.wrap (nx+1)=nx+1:=by rw[IntKind.wrap_i64];omega
 have HX6:=hid (HX5.o.setX (nx+1));have HF6:=hid (HF5.o.trans ((HX5.o.frT 13 (.int .i64 (nx+1))).mono (by simp)));have HP6:Hid (Sb (W5.setCell ⟨g,13,none⟩ (.int .i64 (nx+1))) g1 s1):=hid ((heap_setCell_other _ _ _ _ hg1g).trans HP5.o);have HNt:=hid (Uh B g S _ 1 (T:Int) s1.no _ (by have:=HF6.o.size;omega) ⟨_,_,_,_,_,HX6.o⟩ HLn.o);obtain⟨W6,eW6⟩:∃W,(W5.setCell ⟨g,13,none⟩ (.int .i64 (nx+1)))=W:=⟨_,rfl⟩;rw[eW6]at HX6 HF6 HP6 HNt;obtain⟨b0,b1,b2,b3,b4,b5,b6,b7,bf⟩:=HP6.o.cells;clear HX5 HF5 HP5 HX6;go_wp2_with fail;refine HNt.o.mono ?_;rintro e w8 ⟨⟨v8,rfl⟩,hg8,hf8⟩;have HF8:Hid (FrT B [104,69,47] w w8):=hid ((HF6.o.mono (by simp)).trans (hf8.mono (by simp)));have HG8:=hid hg8;clear hf8 hg8 HNt HF6 HP6 b0 b1 b2 b3 b4 b5 b6 b7 bf c0 c1 c2 c3 c4 c5 c6 c7 c8 c9 c10 c11 c12 c13 c14 c15 cf;go_wp2_with fail;go_end0;refine⟨⟨_,rfl⟩,?_,HF8.o⟩;rw[HF.o];have hg:=HG8.o;simpa[HNx.o]using hg
theorem Fw{M:List (Int × Int)}{k p:Nat}(h:k<M.length):Y6 (M.take (k+1)) p=(Y6 (M.take k) p || (pp M k).1 == (p:Int)):=Hg.met_step M p k h
theorem Fy{M:List (Int × Int)}{k p:Nat}(h:k<M.length)(e:(pp M k).1=(p:Int)):Y6 M p=true:=by
 unfold Y6;rw[List.any_eq_true];exact⟨M[k],List.getElem_mem h,by rw[<- JT h,e];simp⟩
theorem SE(x y:Int)(b:Nat)(p:Int)(w:World)(hc:w.cell? ⟨b,0,none⟩=some (.int .i64 p)):Ya 248 #[pt x y,.pointer (some ⟨b,0,none⟩)] w (.bool (x == p)):=by
 have HS:=hid (sA w (.cells #[.int .i64 x,.int .i64 y] 126));have hc1:=((sA w (.cells #[.int .i64 x,.int .i64 y] 126)).cell (World.block_lt_of_cell? w _ hc) (fun e=>e)).trans hc;have hb:=heap_alloc_new w (.cells #[.int .i64 x,.int .i64 y] 126);have d0:(w.alloc (.cells #[.int .i64 x,.int .i64 y] 126)).cell? ⟨w.heap.size,0,none⟩=some (.int .i64 x):=by rw[cell_of_row _ _ _ _ _ _ hb];rfl
 have df:∀o,(w.alloc (.cells #[.int .i64 x,.int .i64 y] 126)).frozen? ⟨w.heap.size,o,none⟩=false:=fun o=>frozen_of_row _ _ o _ _ hb;clear hb;go_enter Tryz.func248,Tryz.ntmps248;go_wp2_with fail;go_ret;exact⟨rfl,HS.o⟩
theorem SF(M:List (Int × Int))(p:Nat)(b:Nat)(mo:Option Addr)(r mcap:Nat)(w:World)(hr:RdG KT w mo r M)(hc:w.cell? ⟨b,0,none⟩=some (.int .i64 (p:Int))) :
  Calls Tryz.prog 296 #[.slice mo r mcap,.func (.func 248) #[] #[.pointer (some ⟨b,0,none⟩)]] w fun e w'=>∃i:Int,e=.returned (.int .i64 i)/\(decide (0<=i))=Y6 M p/\Yc w w':=by
 have HR:=hid hr;have HL:=hid hr.1;have hn47:r<=281474976710656:=hr.2.1;have HC:=hid (fun u (hu:Yc w u)=>(hu.cell (World.block_lt_of_cell? w _ hc) (fun e=>e)).trans hc);clear hr hc;go_enter Tryz.func296,Tryz.ntmps296;go_wp2_with fail;go_loopw [8] (fun vi wr=>∃k:Nat,k<=r/\vi=.int .i64 (k:Int)/\Hid (Y6 (M.take k) p=false)/\Yc w wr) (fun vi _=>r-(intOf vi).toNat);case atStart=>exact⟨0,Nat.zero_le _,rfl,hid rfl,Fr.refl _ _⟩
 case round =>
  obtain⟨k,hk,rfl,HK,hs⟩:=hrel;by_cases hkn:k<r
  ·have hlt:(k:Int)<(r:Int):=by omega
   have hr1:=HR.o.sT hs;obtain⟨B,o,rfl⟩:=hr1.at (by omega);obtain⟨c0,c1⟩:=rdP hr1 hkn;have HE:=hid (Fw (M:=M) (k:=k) (p:=p) (by have:=HL.o;omega));have HF:=hid (fun h=>Fy (M:=M) (k:=k) (p:=p) (by have:=HL.o;omega) h);have HM:=hid (SE (pp M k).1 (pp M k).2 b (p:Int) wr (HC.o wr hs));obtain⟨x,ex⟩:∃x,(pp M k).1=x:=⟨_,rfl⟩;obtain⟨y,ey⟩:∃x,(pp M k).2=x:=⟨_,rfl⟩;rw[ex]at c0 HM HE HF;rw[ey]at c1 HM;have HS:=hid hs;clear ex ey hs hr1;by_cases hx:x=(p:Int)
   ·have hxb:(x == (p:Int))=true:=by simpa using hx
    rw[hxb]at HM;have HX:=hid (HF.o hx);clear hx hxb HE HF;go_wp2_with fail;refine HM.o.mono ?_;rintro e w1 ⟨rfl,h1⟩;have HS1:=hid (HS.o.trans h1);clear h1 HS c0 c1;go_wp2_with fail
    (try rw[Exit.noGoto_ret])
    go_ret;exact⟨(k:Int),rfl,by rw[HX.o];simp,HS1.o⟩
   ·have hxb:(x == (p:Int))=false:=by simpa using hx
    rw[hxb]at HM;have HX:Hid (Y6 (M.take (k+1)) p=false):=hid (by rw[HE.o,HK.o,hxb];rfl);clear hx hxb HE HF HK;go_wp2_with fail;refine HM.o.mono ?_;rintro e w1 ⟨rfl,h1⟩;have HS1:=hid (HS.o.trans h1);clear h1 HS c0 c1;go_wp2_with fail;go_roundw;case rel=>exact⟨k+1,by omega,by go_num,HX,HS1.o⟩
    case measure=>simp[intOf];omega
  ·have hge:¬(k:Int)<(r:Int):=by omega
   have HE:Hid (Y6 M p=false):=hid (by
    have:=HK.o;rwa [List.take_of_length_le (by have:=HL.o;omega)]at this)
   have HS:=hid hs;clear hs HK;go_wp2_with fail;go_ret;exact⟨-1,rfl,by rw[HE.o];rfl,HS.o⟩
theorem SG(M:List (Int × Int))(p:Nat)(b:Nat)(mo:Option Addr)(r mcap:Nat)(w:World)(hr:RdG KT w mo r M)(hc:w.cell? ⟨b,0,none⟩=some (.int .i64 (p:Int))) :
  Ya 247 #[.slice mo r mcap,.func (.func 248) #[] #[.pointer (some ⟨b,0,none⟩)]] w (.bool (Y6 M p)):=by
 have HI:=hid (SF M p b mo r mcap w hr hc);clear hr hc;go_enter Tryz.func247,Tryz.ntmps247;go_wp2_with fail;refine HI.o.mono ?_;rintro e w1 ⟨i,rfl,hi,h1⟩;have HS:=hid h1;have HE:=hid hi;clear h1 hi;go_wp2_with fail;go_ret;exact⟨by rw[<- HE.o];rfl,HS.o⟩
theorem SH(L:List Sh)(M:List (Int × Int))(ao:Option Addr)(n cap:Nat)(mo:Option Addr)(r mcap:Nat)(w:World)(hr:RdG KS w ao n L)(hm:RdG KT w mo r M)(h47:(n+1)*64<=140737488355328) :
  Calls Tryz.prog 179 #[.slice ao n cap,.slice mo r mcap] w fun e w'=>∃v,e=.returned v/\OwG KS 69 w' w.heap.size v (Yu L M)/\Yc w w':=by
 have HR:=hid hr;have HM:=hid hm;have HL:=hid hr.1;have hn47:n<=281474976710656:=hr.2.1;have HB:=hid h47;clear hr hm h47;have hmf:∀(fn:Fn) (first cap:Array Value) (w:World),(Instr.makeFunc fn first cap).run Tryz.prog w=.ok (.func fn first cap) w:=fun _ _ _ _=>rfl;go_enter Tryz.func179,Tryz.ntmps179;go_wp2_with fail;go_loopw [5,10] (fun v u wr=>∃k:Nat,k<=n/\u=.int .i64 (k:Int)/\OwG KS 69 wr w.heap.size v (Yu (L.take k) M)/\Yc w wr) (fun _ u _=>n-(intOf u).toNat);case atStart=>exact⟨0,by omega,rfl,OwG.nil _ _,Fr.refl _ _⟩
 case round =>
  obtain⟨k,hk,rfl,ho,hs⟩:=hrel;by_cases hkn:k<n
  ·have hlt:(k:Int)<(n:Int):=by omega
   have hr1:=HR.o.sT hs;obtain⟨B,o,rfl⟩:=hr1.at (by omega);obtain⟨c0,c1,c2,c3,c4,c5,c6,c7⟩:=rdS hr1 hkn;have HStp:Hid (Yu (L.take (k+1)) M=Yu (L.take k) M ++ (if Y6 M k then []else [ss L k])):=hid (by
    rw[Qq L M k (by have:=HL.o;omega),ZZ (by have:=HL.o;omega)])
   have HLn:Hid ((Yu (L.take k) M).length<=k):=hid (by have:=JS (L.take k) M;rw[List.length_take]at this;omega);obtain⟨x,ex⟩:∃x,ss L k=x:=⟨_,rfl⟩;simp only[ex]at c0 c1 c2 c3 c4 c5 c6 c7;rw[ex]at HStp;obtain⟨b,eb⟩:∃b,Y6 M k=b:=⟨_,rfl⟩;rw[eb]at HStp;obtain⟨F0,eF⟩:∃F,Yu (L.take k) M=F:=⟨_,rfl⟩;rw[eF]at HStp HLn ho;obtain⟨fo,fcp,rfl,_⟩:=ho.slice;have A1:=sA wr (.cells #[.int .i64 (k:Int)] 3);have A2:=sA (wr.alloc (.cells #[.int .i64 (k:Int)] 3)) (.cells (scs x) 69);have HS2:=hid ((hs.trans A1).trans A2);have HO2:=hid ((ho.sT A1).sT A2);have p2:Sb ((wr.alloc (.cells #[.int .i64 (k:Int)] 3)).alloc (.cells (scs x) 69)) (wr.alloc (.cells #[.int .i64 (k:Int)] 3)).heap.size x:=Ua (wr.alloc (.cells #[.int .i64 (k:Int)] 3)) x;have HP2:=hid p2;have hc2:((wr.alloc (.cells #[.int .i64 (k:Int)] 3)).alloc (.cells (scs x) 69)).cell? ⟨wr.heap.size,0,none⟩=some (.int .i64 (k:Int)):=by
    rw[cell_of_row _ _ _ _ _ _ (A2.kept_still (heap_alloc_new wr _))];rfl
   have HCo:=hid (SG M k wr.heap.size mo r mcap _ (HM.o.sT HS2.o) hc2);rw[eb]at HCo;clear hs hr1 ex ho eb eF A1 A2 p2 hc2;obtain⟨W2,eW2⟩:∃W,(wr.alloc (.cells #[.int .i64 (k:Int)] 3)).alloc (.cells (scs x) 69)=W:=⟨_,rfl⟩;have hsz:(wr.alloc (.cells #[.int .i64 (k:Int)] 3)).heap.size=wr.heap.size+1:=size_alloc _ _;rw[hsz]at HP2;rw[eW2]at HS2 HO2 HP2 HCo;clear hsz;go_wp2_with fail;refine HCo.o.mono ?_;rintro e w3 ⟨rfl,h3⟩;have HS3:=hid (HS2.o.trans h3);have HO3:=hid (HO2.o.sT h3);have HP3:=hid (HP2.o.sT h3);clear h3 HCo HS2 HO2 HP2 c0 c1 c2 c3 c4 c5 c6 c7 eW2;cases b with
   | true =>
    go_wp2_with fail;go_roundw;case rel=>exact⟨k+1,by omega,by go_num,by rw[HStp.o];simpa using HO3.o,HS3.o⟩
    case measure=>first|(simp[intOf];done)|(simp[intOf];omega)
   | false =>
    obtain⟨d0,d1,d2,d3,d4,d5,d6,d7,df⟩:=HP3.o.cells;have A4:=sA w3 (.cells (scs x) 69);have HO4:=hid (HO3.o.sT A4);have HS4:=hid (HS3.o.trans A4);have HY4:Hid ((w3.alloc (.cells (scs x) 69)).heap[w3.heap.size]?=some (.cells (scs x) 69 (0,0))):=hid (heap_alloc_new w3 _);have HB4:Hid (w.heap.size<=(w3.alloc (.cells (scs x) 69)).heap.size):=hid HS4.o.size;have HL4:Hid ((F0.length+1)*64<=140737488355328):=hid (Nat.le_trans (Nat.mul_le_mul_right _ (by have:=HLn.o;omega)) HB.o);clear A4;go_wp2_with (
     at_builtin;refine ZA KS _ rfl _ _ 30 rfl Tryz.underlying30 64 VI w.heap.size w3.heap.size _ F0 x rfl rfl HO4.o HY4.o HL4.o (by have:=HL4.o;omega) HB4.o ?_;intro v' w' ho' hf';have HO:=hid ho';have HSt:=hid (XO HS4.o HO4.o hf' (Nat.le_refl _));clear ho' hf')
    go_roundw;case rel=>exact⟨k+1,by omega,by go_num,by rw[HStp.o];simpa using HO.o,HSt.o⟩
    case measure=>first|(simp[intOf];done)|(simp[intOf];omega)
  ·have hge:¬(k:Int)<(n:Int):=by omega
   have HE:Hid (Yu (L.take k) M=Yu L M):=hid (by rw[List.take_of_length_le (by have:=HL.o;omega)]);have HO:=hid ho;have HS:=hid hs;clear hs ho;go_wp2_with fail;go_ret;exact⟨_,rfl,by rw[<- HE.o];exact HO.o,HS.o⟩
theorem SI(x y:Int)(b:Nat)(p:Int)(w:World)(hc:w.cell? ⟨b,0,none⟩=some (.int .i64 p)):Ya 252 #[pt x y,.pointer (some ⟨b,0,none⟩)] w (.bool (x == p)):=by
 have HS:=hid (sA w (.cells #[.int .i64 x,.int .i64 y] 126));have hc1:=((sA w (.cells #[.int .i64 x,.int .i64 y] 126)).cell (World.block_lt_of_cell? w _ hc) (fun e=>e)).trans hc;have hb:=heap_alloc_new w (.cells #[.int .i64 x,.int .i64 y] 126);have d0:(w.alloc (.cells #[.int .i64 x,.int .i64 y] 126)).cell? ⟨w.heap.size,0,none⟩=some (.int .i64 x):=by rw[cell_of_row _ _ _ _ _ _ hb];rfl
 have df:∀o,(w.alloc (.cells #[.int .i64 x,.int .i64 y] 126)).frozen? ⟨w.heap.size,o,none⟩=false:=fun o=>frozen_of_row _ _ o _ _ hb;clear hb;go_enter Tryz.func252,Tryz.ntmps252;go_wp2_with fail;go_ret;exact⟨rfl,HS.o⟩
theorem SJ(M:List (Int × Int))(p:Nat)(b:Nat)(mo:Option Addr)(r mcap:Nat)(w:World)(hr:RdG KT w mo r M)(hc:w.cell? ⟨b,0,none⟩=some (.int .i64 (p:Int))) :
  Calls Tryz.prog 296 #[.slice mo r mcap,.func (.func 252) #[] #[.pointer (some ⟨b,0,none⟩)]] w fun e w'=>∃i:Int,e=.returned (.int .i64 i)/\(decide (0<=i))=Y6 M p/\Yc w w':=by
 have HR:=hid hr;have HL:=hid hr.1;have hn47:r<=281474976710656:=hr.2.1;have HC:=hid (fun u (hu:Yc w u)=>(hu.cell (World.block_lt_of_cell? w _ hc) (fun e=>e)).trans hc);clear hr hc;go_enter Tryz.func296,Tryz.ntmps296;go_wp2_with fail;go_loopw [8] (fun vi wr=>∃k:Nat,k<=r/\vi=.int .i64 (k:Int)/\Hid (Y6 (M.take k) p=false)/\Yc w wr) (fun vi _=>r-(intOf vi).toNat);case atStart=>exact⟨0,Nat.zero_le _,rfl,hid rfl,Fr.refl _ _⟩
 case round =>
  obtain⟨k,hk,rfl,HK,hs⟩:=hrel;by_cases hkn:k<r
  ·have hlt:(k:Int)<(r:Int):=by omega
   have hr1:=HR.o.sT hs;obtain⟨B,o,rfl⟩:=hr1.at (by omega);obtain⟨c0,c1⟩:=rdP hr1 hkn;have HE:=hid (Fw (M:=M) (k:=k) (p:=p) (by have:=HL.o;omega));have HF:=hid (fun h=>Fy (M:=M) (k:=k) (p:=p) (by have:=HL.o;omega) h);have HM:=hid (SI (pp M k).1 (pp M k).2 b (p:Int) wr (HC.o wr hs));obtain⟨x,ex⟩:∃x,(pp M k).1=x:=⟨_,rfl⟩;obtain⟨y,ey⟩:∃x,(pp M k).2=x:=⟨_,rfl⟩;rw[ex]at c0 HM HE HF;rw[ey]at c1 HM;have HS:=hid hs;clear ex ey hs hr1;by_cases hx:x=(p:Int)
   ·have hxb:(x == (p:Int))=true:=by simpa using hx
    rw[hxb]at HM;have HX:=hid (HF.o hx);clear hx hxb HE HF;go_wp2_with fail;refine HM.o.mono ?_;rintro e w1 ⟨rfl,h1⟩;have HS1:=hid (HS.o.trans h1);clear h1 HS c0 c1;go_wp2_with fail
    (try rw[Exit.noGoto_ret])
    go_ret;exact⟨(k:Int),rfl,by rw[HX.o];simp,HS1.o⟩
   ·have hxb:(x == (p:Int))=false:=by simpa using hx
    rw[hxb]at HM;have HX:Hid (Y6 (M.take (k+1)) p=false):=hid (by rw[HE.o,HK.o,hxb];rfl);clear hx hxb HE HF HK;go_wp2_with fail;refine HM.o.mono ?_;rintro e w1 ⟨rfl,h1⟩;have HS1:=hid (HS.o.trans h1);clear h1 HS c0 c1;go_wp2_with fail;go_roundw;case rel=>exact⟨k+1,by omega,by go_num,HX,HS1.o⟩
    case measure=>simp[intOf];omega
  ·have hge:¬(k:Int)<(r:Int):=by omega
   have HE:Hid (Y6 M p=false):=hid (by
    have:=HK.o;rwa [List.take_of_length_le (by have:=HL.o;omega)]at this)
   have HS:=hid hs;clear hs HK;go_wp2_with fail;go_ret;exact⟨-1,rfl,by rw[HE.o];rfl,HS.o⟩
theorem SK(M:List (Int × Int))(p:Nat)(b:Nat)(mo:Option Addr)(r mcap:Nat)(w:World)(hr:RdG KT w mo r M)(hc:w.cell? ⟨b,0,none⟩=some (.int .i64 (p:Int))) :
  Ya 247 #[.slice mo r mcap,.func (.func 252) #[] #[.pointer (some ⟨b,0,none⟩)]] w (.bool (Y6 M p)):=by
 have HI:=hid (SJ M p b mo r mcap w hr hc);clear hr hc;go_enter Tryz.func247,Tryz.ntmps247;go_wp2_with fail;refine HI.o.mono ?_;rintro e w1 ⟨i,rfl,hi,h1⟩;have HS:=hid h1;have HE:=hid hi;clear h1 hi;go_wp2_with fail;go_ret;exact⟨by rw[<- HE.o];rfl,HS.o⟩
theorem SL(L:List Pk)(M:List (Int × Int))(ao:Option Addr)(n cap:Nat)(mo:Option Addr)(r mcap:Nat)(w:World)(hr:RdG KQ w ao n L)(hm:RdG KT w mo r M)(h47:(n+1)*24<=140737488355328) :
  Calls Tryz.prog 183 #[.slice ao n cap,.slice mo r mcap] w fun e w'=>∃v,e=.returned v/\OwG KQ 71 w' w.heap.size v (Yu L M)/\Yc w w':=by
 have HR:=hid hr;have HM:=hid hm;have HL:=hid hr.1;have hn47:n<=281474976710656:=hr.2.1;have HB:=hid h47;clear hr hm h47;have hmf:∀(fn:Fn) (first cap:Array Value) (w:World),(Instr.makeFunc fn first cap).run Tryz.prog w=.ok (.func fn first cap) w:=fun _ _ _ _=>rfl;go_enter Tryz.func183,Tryz.ntmps183;go_wp2_with fail;go_loopw [5,10] (fun v u wr=>∃k:Nat,k<=n/\u=.int .i64 (k:Int)/\OwG KQ 71 wr w.heap.size v (Yu (L.take k) M)/\Yc w wr) (fun _ u _=>n-(intOf u).toNat);case atStart=>exact⟨0,by omega,rfl,OwG.nil _ _,Fr.refl _ _⟩
 case round =>
  obtain⟨k,hk,rfl,ho,hs⟩:=hrel;by_cases hkn:k<n
  ·have hlt:(k:Int)<(n:Int):=by omega
   have hr1:=HR.o.sT hs;obtain⟨B,o,rfl⟩:=hr1.at (by omega);obtain⟨c0,c1,c2⟩:=rdQ hr1 hkn;have HStp:Hid (Yu (L.take (k+1)) M=Yu (L.take k) M ++ (if Y6 M k then []else [pk L k])):=hid (by
    rw[Qq L M k (by have:=HL.o;omega),Z9 (by have:=HL.o;omega)])
   have HLn:Hid ((Yu (L.take k) M).length<=k):=hid (by have:=JS (L.take k) M;rw[List.length_take]at this;omega);obtain⟨x,ex⟩:∃x,pk L k=x:=⟨_,rfl⟩;simp only[ex]at c0 c1 c2;rw[ex]at HStp;obtain⟨b,eb⟩:∃b,Y6 M k=b:=⟨_,rfl⟩;rw[eb]at HStp;obtain⟨F0,eF⟩:∃F,Yu (L.take k) M=F:=⟨_,rfl⟩;rw[eF]at HStp HLn ho;obtain⟨fo,fcp,rfl,_⟩:=ho.slice;have A1:=sA wr (.cells #[.int .i64 (k:Int)] 3);have A2:=sA (wr.alloc (.cells #[.int .i64 (k:Int)] 3)) (.cells (kcs x) 71);have HS2:=hid ((hs.trans A1).trans A2);have HO2:=hid ((ho.sT A1).sT A2);have p2:Kb ((wr.alloc (.cells #[.int .i64 (k:Int)] 3)).alloc (.cells (kcs x) 71)) (wr.alloc (.cells #[.int .i64 (k:Int)] 3)).heap.size x:=Xn (wr.alloc (.cells #[.int .i64 (k:Int)] 3)) x;have HP2:=hid p2;have hc2:((wr.alloc (.cells #[.int .i64 (k:Int)] 3)).alloc (.cells (kcs x) 71)).cell? ⟨wr.heap.size,0,none⟩=some (.int .i64 (k:Int)):=by
    rw[cell_of_row _ _ _ _ _ _ (A2.kept_still (heap_alloc_new wr _))];rfl
   have HCo:=hid (SK M k wr.heap.size mo r mcap _ (HM.o.sT HS2.o) hc2);rw[eb]at HCo;clear hs hr1 ex ho eb eF A1 A2 p2 hc2;obtain⟨W2,eW2⟩:∃W,(wr.alloc (.cells #[.int .i64 (k:Int)] 3)).alloc (.cells (kcs x) 71)=W:=⟨_,rfl⟩;have hsz:(wr.alloc (.cells #[.int .i64 (k:Int)] 3)).heap.size=wr.heap.size+1:=size_alloc _ _;rw[hsz]at HP2;rw[eW2]at HS2 HO2 HP2 HCo;clear hsz;go_wp2_with fail;refine HCo.o.mono ?_;rintro e w3 ⟨rfl,h3⟩;have HS3:=hid (HS2.o.trans h3);have HO3:=hid (HO2.o.sT h3);have HP3:=hid (HP2.o.sT h3);clear h3 HCo HS2 HO2 HP2 c0 c1 c2 eW2;cases b with
   | true =>
    go_wp2_with fail;go_roundw;case rel=>exact⟨k+1,by omega,by go_num,by rw[HStp.o];simpa using HO3.o,HS3.o⟩
    case measure=>first|(simp[intOf];done)|(simp[intOf];omega)
   | false =>
    obtain⟨d0,d1,d2,df⟩:=HP3.o.cells;have A4:=sA w3 (.cells (kcs x) 71);have HO4:=hid (HO3.o.sT A4);have HS4:=hid (HS3.o.trans A4);have HY4:Hid ((w3.alloc (.cells (kcs x) 71)).heap[w3.heap.size]?=some (.cells (kcs x) 71 (0,0))):=hid (heap_alloc_new w3 _);have HB4:Hid (w.heap.size<=(w3.alloc (.cells (kcs x) 71)).heap.size):=hid HS4.o.size;have HL4:Hid ((F0.length+1)*24<=140737488355328):=hid (Nat.le_trans (Nat.mul_le_mul_right _ (by have:=HLn.o;omega)) HB.o);clear A4;go_wp2_with (
     at_builtin;refine ZA KQ _ rfl _ _ 31 rfl Tryz.underlying31 24 Ji w.heap.size w3.heap.size _ F0 x rfl rfl HO4.o HY4.o HL4.o (by have:=HL4.o;omega) HB4.o ?_;intro v' w' ho' hf';have HO:=hid ho';have HSt:=hid (XO HS4.o HO4.o hf' (Nat.le_refl _));clear ho' hf')
    go_roundw;case rel=>exact⟨k+1,by omega,by go_num,by rw[HStp.o];simpa using HO.o,HSt.o⟩
    case measure=>first|(simp[intOf];done)|(simp[intOf];omega)
  ·have hge:¬(k:Int)<(n:Int):=by omega
   have HE:Hid (Yu (L.take k) M=Yu L M):=hid (by rw[List.take_of_length_le (by have:=HL.o;omega)]);have HO:=hid ho;have HS:=hid hs;clear hs ho;go_wp2_with fail;go_ret;exact⟨_,rfl,by rw[<- HE.o];exact HO.o,HS.o⟩
theorem DA{α β:Type}{R:α->β->World->Prop}{K:Act->World->Prop}{G:Prop}(h:∃A:α->β->Act,((∀x y u,R x y u->K (A x y) u)->G)/\∀x y u,R x y u->K (A x y) u):G:=by
 obtain⟨_,h1,h2⟩:=h;exact h1 h2
theorem Zn{α:Type}{K:Kd α}{e:TypeId}{w:World}{B n cap:Nat}{ao:Option Addr}{L:List α}(h:OwG K e w B (.slice ao n cap) L)(hm:L.length<=281474976710656):RdG K w ao L.length L:=OwG.rd (M:=[]) (by simpa using h) hm
theorem Kj{α:Type}{K:Kd α}{e:TypeId}{w:World}{B n cap:Nat}{ao:Option Addr}{L:List α}(h:OwG K e w B (.slice ao n cap) L):n=L.length/\L.length<=cap:=by
 rcases h.2 with⟨h1,h2⟩|⟨g,c,cur,h1,_,_,h4,_⟩
 ·injection h1 with _ h5 h6;omega
 ·injection h1 with _ h5 h6;omega
theorem SM(g:Gm)(s:Sh)(t:Int):(Yx g s t).w.ms.length=g.w.ms.length/\(Yx g s t).w.cs.length=g.w.cs.length/\(Yx g s t).ns.length<=g.ns.length+2:=by
 unfold Yx;dsimp only;split
 ·exact⟨rfl,rfl,by omega⟩
 ·refine⟨by simp,by simp,?_⟩;split<;>simp
theorem Jk(F:List Sh):∀(l:List (Int × Int)) (g:Gm),(YD F l g).w.ms.length=g.w.ms.length/\(YD F l g).w.cs.length=g.w.cs.length/\(YD F l g).ns.length<=g.ns.length+2*l.length
 | [],_=>⟨rfl,rfl,by simp[YD]⟩
 | t :: l,g=>by
  have h1:=SM g (ss F t.1.toNat) t.2;have h2:=Jk F l (Yx g (ss F t.1.toNat) t.2);refine⟨h2.1.trans h1.1,h2.2.1.trans h1.2.1,?_⟩;have h3:(YD F (t :: l) g).ns.length<=_:=h2.2.2;rw[List.length_cons];omega
theorem Fz{n:Nat}:∀{l:List (Int × Int)} {k:Nat},l.Pairwise (fun a b=>a.1<b.1)->(∀t∈l,(k:Int)<=t.1/\t.1<(n:Int))->l.length+k<=max n k
 | [],k,_,_=>by simp;omega
 | t :: l,k,h1,h2=>by
  have h3:=List.pairwise_cons.1 h1;have h4:=h2 t (List.mem_cons_self ..);have h5:=Fz (n:=n) (l:=l) (k:=k+1) h3.2 fun u hu=>⟨by have:=h3.1 u hu;push_cast;omega,(h2 u (List.mem_cons_of_mem _ hu)).2⟩;rw[List.length_cons];omega
theorem sho_len(L:List Mv)(S:List Sh):(sho L S).length<=S.length:=by
 have h:=Hg.sho_rise (L:=L) (S:=S);have:=Fz (n:=S.length) (k:=0) h.1 (fun t ht=>by simpa using h.2 t ht);omega
theorem F1{L:List Mv}{S:List Sh}{k:Nat}(h:k<(sho L S).length):∃i j:Nat,pp (sho L S) k=((i:Int),(j:Int))/\i<S.length/\j<L.length:=by
 have hm:pp (sho L S) k∈sho L S:=by rw[JT h];exact List.getElem_mem h
 have h1:=(Hg.sho_rise (L:=L) (S:=S)).2 _ hm;have h2:=Nc _ hm;have h3:=M4 _ hm;exact⟨(pp (sho L S) k).1.toNat,(pp (sho L S) k).2.toNat,Prod.ext (by simp;omega) (by simp;omega),h2.1,h2.2⟩
theorem SN(x:World)(S:Se)(E:Env)(D:P13 x S.F E)(B g:Nat)(G:Gm)(N:Nat)(w:World)(hB:B<=w.heap.size)(h:FmM B w g S G)(hM:G.w.ms.length=N)(hC:G.w.cs.length=N)(hN:N<=6)(h48:G.w.hs.length<=48)(hF:∀i,i<G.w.hs.length->∃O:Nat,(ss G.w.hs i).ow=(O:Int)/\O<N)(h47:(G.ns.length+110)*24<=140737488355328) :
  Calls Tryz.prog 110 #[.pointer (some ⟨g,0,none⟩)] w fun e w'=>(∃v,e=.returned v)/\FmM B w' g S (Vl G)/\FrT B [104,59,67,47] w w':=by
 have HD:=hid D;have H:=hid h;obtain⟨va,vb,vc,vd,ve,hx⟩:=h;obtain⟨ao,cpm,rfl,_⟩:=hx.o1.slice;obtain⟨so,scp,rfl,_⟩:=hx.o3.slice;have HX:=hid hx;have hr1:=Zn hx.o1 (by omega);have hr3:=Zn hx.o3 (by omega);have HSh:=hid (fun u (hu:Yc w u)=>HD.o.sho G.w.ms G.w.hs ao G.w.ms.length cpm so G.w.hs.length scp u (hr1.sT hu) (hr3.sT hu));obtain⟨c0,c1,c2,c3,c4,c5,c6,c7,c8,c9,c10,c11,c12,c13,c14,c15,cf⟩:=hx.k.cells;have HFo:=hid hF;have HLn:=hid h47;have HMl:=hid hM;have HCl:=hid hC;have HS48:=hid h48;obtain⟨l,el⟩:∃l,sho G.w.ms G.w.hs=l:=⟨_,rfl⟩;have HEl:=hid el;obtain⟨n,en⟩:∃n,l.length=n:=⟨_,rfl⟩;have HEn:=hid en;have HN48:Hid (n<=48):=hid (by rw[<- en,<- el];have:=sho_len G.w.ms G.w.hs;omega);rw[el]at HSh;clear hx D hr1 hr3 hF h47 hM hC h48 el en;go_enter Tryz.func110,Tryz.ntmps110;go_upto_region 0 with fail;rename_i K0 a0;refine DA (K:=K0) (R:=fun(mo:Option Addr) (mcp:Nat) u=>OwG KT 126 u w.heap.size (.slice mo n mcp) l/\Yc w u) ?_;apply Exists.intro;refine And.intro ?_ ?_
 ·intro hk;go_region_with (go_at_call 177;refine(HSh.o _ (by first|exact Fr.refl _ _|exact(Fr.refl _ w).drew|exact(Fr.refl _ w).drewN _)).mono ?_;rintro e w1 ⟨v1,rfl,ho1,h1⟩;obtain⟨mo,mcp,hv,_⟩:=ho1.slice;rw[HEn.o]at hv;subst hv;have g1:Yc w w1:=(by first|exact h1|exact Yc.trans ((Fr.refl _ w).drew) h1|exact Yc.trans ((Fr.refl _ w).drewN _) h1);have HO1:=hid (ho1.less (B':=w.heap.size) (by simp));have HG1:=hid g1;clear ho1 h1 g1)
  all_goals show K0 _ _
  all_goals simp only[Act.put,List.setIfInBounds_toArray]
  all_goals exact hk mo mcp _ ⟨HO1.o,HG1.o⟩
 intro mo mcp w1 ⟨ho1,h1⟩;have HO1:=hid ho1;have HS1:=hid h1;have HG1:=hid (H.o.sT h1);refine a0 _ _ ?_;clear c0 c1 c2 c3 c4 c5 c6 c7 c8 c9 c10 c11 c12 c13 c14 c15 cf ho1 h1 HSh a0;go_wp2_with fail;go_loopw [22] (fun u wr=>∃i:Nat,i<=n/\u=.int .i64 (i:Int)/\FmM B wr g S (YD G.w.hs (l.take i) G)/\FrT B [104,59,67,47] w1 wr) (fun u _=>n-(intOf u).toNat);case atStart=>exact⟨0,by omega,rfl,HG1.o,FrT.refl _ _ _⟩
 case round =>
  obtain⟨i,hi,rfl,hg,hf⟩:=hrel;have hn48:n<=48:=HN48.o;by_cases hin:i<n
  ·have hlt:(i:Int)<(n:Int):=by omega
   have hO:=HO1.o.keepT hf (by decide);obtain⟨gt,cpt,hv,hv1,hv2⟩:=hO.head (by rw[HEn.o];omega);simp only[Value.slice.injEq]at hv;obtain⟨rfl,hv3,hv4⟩:=hv;obtain⟨q0,q1,qf⟩:=owT hO (i:=i) (by rw[HEn.o];omega);obtain⟨A,T,eAT,hA,hT⟩:=F1 (L:=G.w.ms) (S:=G.w.hs) (k:=i) (by rw[HEl.o,HEn.o];exact hin);rw[HEl.o]at eAT;rw[HMl.o]at hT;simp only[eAT]at q0 q1;obtain⟨O,hso,hOn⟩:=HFo.o A hA;have hk:=Qs G.w.hs (l.take i) G;have hl:=Jk G.w.hs (l.take i) G;have HSt:Hid (YD G.w.hs (l.take (i+1)) G=Yx (YD G.w.hs (l.take i) G) (ss G.w.hs A) (T:Int)):=hid (by
    unfold YD;rw[Du _ _ _ (by rw[HEn.o];exact hin),<- JT (by rw[HEn.o];exact hin),eAT];simp)
   obtain⟨Gi,eGi⟩:∃z,YD G.w.hs (l.take i) G=z:=⟨_,rfl⟩;rw[eGi]at hg hk hl HSt;have HHs:=hid hk.2.1;have HMi:=hid (hl.1.trans HMl.o);have HCi:=hid (hl.2.1.trans HCl.o);have HLi:Hid ((Gi.ns.length+8)*24<=140737488355328):=hid (Nat.le_trans (Nat.mul_le_mul_right 24 (by have h5:=hl.2.2;rw[List.length_take]at h5;have:=HN48.o;omega)) HLn.o);have HF:=hid hf;have hAl:(A:Int)<(G.w.hs.length:Int):=by omega
   have A1:=sA wr (.cells #[.int .i64 (A:Int),.int .i64 (T:Int)] 126);have HA1:=hid A1;have HG2:=hid (hg.sT A1);have hb:=heap_alloc_new wr (.cells #[.int .i64 (A:Int),.int .i64 (T:Int)] 126);have HMt:=hid hb;obtain⟨va,vb,vc,vd,ve,hx⟩:=hg.sT A1;obtain⟨gs,cps,rfl,hgs1,hgs2⟩:=hx.o3.head (by rw[HHs.o];omega);rw[HHs.o]at hx;have hx3:=hx.o3;rw[HHs.o]at hx3;have HX:=hid hx;have HX3:=hid hx3;obtain⟨s0,es0⟩:∃s,ss G.w.hs A=s:=⟨_,rfl⟩;have ES:=hid es0;rw[es0]at hso HSt;obtain⟨R,eR⟩:∃r,G.w.hs.length=r:=⟨_,rfl⟩;have HR:=hid eR;rw[eR]at hAl HX HX3;have HRl:=hid hA;have HSO:=hid hso;clear hso hg hk hl eGi hf hO hv1 hv2 hv3 hv4 eAT hA A1 hb hx hx3 es0 eR hgs1 hgs2;go_upto_region 4 with fail;refine Js 12 (by kernel_rfl) (by kernel_rfl) (by kernel_rfl) ?_;apply Exists.intro;refine And.intro ?_ ?_
   ·intro u hu;obtain⟨k0,k1,k2,k3,k4,k5,k6,k7,k8,k9,k10,k11,k12,k13,k14,k15⟩:=(HX.o.sT hu).k.cl;obtain⟨l0,l1,l2,l3,l4,l5,l6,l7⟩:=Dp (HX3.o.sT hu) (i:=A) HRl.o ES.o;have hb:=hu.kept_still HMt.o;have m0:=kC (w:=u) (p:=⟨wr.heap.size,0,none⟩) (v:=.int .i64 (A:Int)) (by rw[cell_of_row _ _ _ _ _ _ hb];rfl);have m1:=kC (w:=u) (p:=⟨wr.heap.size,1,none⟩) (v:=.int .i64 (T:Int)) (by rw[cell_of_row _ _ _ _ _ _ hb];rfl);have hne:=Aft.here u;simp only[List.take_succ_cons,List.take_zero];repeat(go_big_quiet_step (fail))
    exact wpQuiet_nil rfl
   intro w2 h2;simp only[List.drop_succ_cons,List.drop_zero];have HHu:=hid (Rt x S E HD.o B g Gi s0 T O N w2 (by have:=HS1.o.size;have:=HF.o.size;have:=HA1.o.size;have:=h2.size;omega) (HG2.o.sT h2) HMi.o HCi.o hT hOn HSO.o HLi.o);have HF2:=hid (HF.o.then (HA1.o.trans h2));clear h2 HX HX3 HG2 HMt HA1 HF q0 q1 qf;go_wp2_with fail;refine HHu.o.mono ?_;rintro e w3 ⟨⟨v3,rfl⟩,hg3,hf3⟩;have HG3:=hid hg3;have HF3:=hid (HF2.o.trans hf3);clear hg3 hf3 HHu HF2;go_wp2_with fail;refine⟨rfl,?_⟩;go_wp2_with fail;go_roundw;case rel=>exact⟨i+1,by omega,by go_num,by rw[HSt.o];exact HG3.o,HF3.o⟩
   case measure=>first|(simp[intOf];done)|(simp[intOf];omega)
  ·have hge:¬(i:Int)<(n:Int):=by omega
   obtain rfl:i=n:=by omega
   have hk:=Qs G.w.hs (l.take i) G;have HHs:=hid hk.2.1;have HTk:Hid (l.take i=l):=hid (List.take_of_length_le (by rw[HEn.o];omega));have hO:=HO1.o.keepT hf (by decide);have HM:=hid (Zn hO (by rw[HEn.o];have:=HN48.o;omega));have HF:=hid hf;obtain⟨va,vb,vc,vd,ve,hx⟩:=hg;obtain⟨so2,scp2,rfl,_⟩:=hx.o3.slice;have hx3:=hx.o3;rw[HHs.o]at hx hx3;have HR3:=hid (Zn hx3 (by have:=HS48.o;omega));have HX:=hid hx;obtain⟨c0,c1,c2,c3,c4,c5,c6,c7,c8,c9,c10,c11,c12,c13,c14,c15,cf⟩:=hx.k.cells;clear hf hk hO hx hx3 hin;have HU:=hid (SH G.w.hs l so2 G.w.hs.length scp2 mo i mcp wr HR3.o (by have:=HM.o;rw[HEn.o]at this;exact this) (by have:=HS48.o;omega));go_wp2_with fail;refine HU.o.mono ?_;rintro e w2 ⟨v2,rfl,ho2,h2⟩;obtain⟨fo,fcp,rfl,_⟩:=ho2.slice;have HX2:=hid (HX.o.sT h2);have HO2:=hid (ho2.less (B':=B) (by have:=HS1.o.size;have:=HF.o.size;omega));have HS2:=hid h2;clear c0 c1 c2 c3 c4 c5 c6 c7 c8 c9 c10 c11 c12 c13 c14 c15 cf;obtain⟨c0,c1,c2,c3,c4,c5,c6,c7,c8,c9,c10,c11,c12,c13,c14,c15,cf⟩:=HX2.o.k.cells;clear ho2 h2 HX HU HR3;go_wp2_with fail;go_end0;refine⟨⟨_,rfl⟩,?_,?_⟩
   ·have h1:=HX2.o.setC _ _ HO2.o;have e:Vl G=⟨{ (YD G.w.hs (l.take i) G).w with hs:=Yu G.w.hs l },(YD G.w.hs (l.take i) G).ns⟩:=by
     unfold Vl;rw[HEl.o,HTk.o]
    rw[e];exact⟨_,_,_,_,_,h1⟩
   ·exact((FrT.of_still HS1.o).trans HF.o).trans ((FrT.of_still HS2.o).trans ((HX2.o.frT _ _).mono (by simp)))
theorem SO(G:Gm)(y:Cm)(m:Mv)(d:Bool)(hm:YR (mm G.w.ms y.pe.toNat) y.v y.a y.b y.c=m)(hd:Zt (mm G.w.ms y.pe.toNat) y.v y.a y.b y.c=d)(hl:y.pe.toNat<G.w.ms.length)(hno:y.v=4->(YV m y.pe y.a G.w.nx).no=G.w.nx \/ ¬G.w.nx<=1099511627776) :
  act1 G y=if d=true/\y.v=4 then Jj ⟨{ G.w with ms:=G.w.ms.set y.pe.toNat m },G.ns⟩ y.pe y.a else if d=true/\y.v=7 then⟨{ G.w with ms:=G.w.ms.set y.pe.toNat m },G.ns ++ [⟨8,y.pe,y.a⟩]⟩else⟨{ G.w with ms:=G.w.ms.set y.pe.toNat m },G.ns⟩:=by
 unfold act1 Jj;dsimp only;rw[hm,hd,Qb hl,if_pos rfl];by_cases h4:d=true/\y.v=4
 ·rw[if_pos h4];by_cases h5:G.w.hs.length<48/\G.w.nx<=1099511627776
  ·rw[if_pos ⟨h4.1,h4.2,h5.1,h5.2⟩,if_pos h5];rcases hno h4.2 with h6|h6
   ·rw[h6]
   ·exact absurd h5.2 h6
  ·rw[if_neg (fun h=>h5 ⟨h.2.2.1,h.2.2.2⟩),if_neg h5,if_neg (fun h=>by have:=h4.2;have:=h.2;omega)]
 ·rw[if_neg (fun h=>h4 ⟨h.1,h.2.1⟩),if_neg h4]
theorem SP{n:Nat}{E:Env}{G:Gm}{y:Cm}(hn:n<=6)(h:Ha.Good n E G.w)(hy:Rgt n y)(h4:y.v=4):(YV (YR (mm G.w.ms y.pe.toNat) y.v y.a y.b y.c) y.pe y.a G.w.nx).no=G.w.nx \/ ¬G.w.nx<=1099511627776:=by
 obtain⟨hS,hR⟩:=h;obtain⟨p0,p1,p2,p3⟩:=hy;have hp:y.pe.toNat<n:=by omega
 have he:YU (mm G.w.ms y.pe.toNat) y.v y.a y.b y.c=0:=by unfold YU;rw[mayB_iff.2 (hS.2.1 _ hp)];exact p3
 have hm:=BO he;by_cases c4:G.w.nx<=1099511627776
 ·left
  obtain⟨r1,r2,r3,r4,r5,r6⟩:=hR;have ha:1<=y.a/\y.a<=3:=by have:=JF p3;omega
  have harg:V3 y.pe y.a G.w.nx=true:=argB_iff.2 ⟨⟨p0,by omega⟩,ha,r5,c4⟩;unfold YV ZQ;rw[mayB_iff.2 hm,harg];rfl
 ·exact .inr c4
theorem DB(l:List Cm):∀G:Gm,(YJ l G).ns.length<=G.ns.length+l.length:=by
 induction l with
 | nil=>intro G;simp[YJ]
 | cons y l ih =>
  intro G;have h1:=ih (act1 G y);have h2:(act1 G y).ns.length<=G.ns.length+1:=by
   unfold act1;dsimp only;split
   ·simp
   ·split<;>simp
  have h3:(YJ (y :: l) G)=YJ l (act1 G y):=rfl;rw[h3,List.length_cons];omega
theorem SQ(x:World)(S:Se)(E:Env)(D:P13 x S.F E)(B g:Nat)(G:Gm)(N:Nat)(l:List Cm)(xo:Option Addr)(n xcp:Nat)(hxs:S.xs=.slice xo n xcp)(hr:RdG KX x xo n l)(w:World)(hw:Yc x w)(hxB:x.heap.size<=B)(hB:B<=w.heap.size)(h:FmM B w g S G)(hN:N<=6)(hG:Ha.Good N E G.w)(hl:∀y∈l,Rgt N y)(h47:(G.ns.length+n+1)*24<=140737488355328) :
  Calls Tryz.prog 106 #[.pointer (some ⟨g,0,none⟩)] w fun e w'=>(∃v,e=.returned v)/\FmM B w' g S (YJ l G)/\FrT B [104,59,69,47] w w':=by
 have HD:=hid D;have H:=hid h;obtain⟨va,vb,vc,vd,ve,hx⟩:=h;obtain⟨c0,c1,c2,c3,c4,c5,c6,c7,c8,c9,c10,c11,c12,c13,c14,c15,cf⟩:=hx.k.cells;rw[hxs]at c14;have HLn:=hid h47;have HGd:=hid hG;have HRg:=hid hl;have HRd:=hid hr;have HW:=hid hw;have HLl:Hid (l.length=n):=hid hr.1;have hn48:n<=281474976710656:=hr.2.1;clear hx D h47 hG hl hr hw hxs;go_enter Tryz.func106,Tryz.ntmps106;go_wp2_with fail;clear c0 c1 c2 c3 c4 c5 c6 c7 c8 c9 c10 c11 c12 c13 c14 c15 cf;go_loopw [12] (fun u wr=>∃i:Nat,i<=n/\u=.int .i64 (i:Int)/\FmM B wr g S (YJ (l.take i) G)/\FrT B [104,59,69,47] w wr) (fun u _=>n-(intOf u).toNat);case atStart=>exact⟨0,by omega,rfl,H.o,FrT.refl _ _ _⟩
 case round =>
  obtain⟨i,hi,rfl,hg,hf⟩:=hrel;by_cases hin:i<n
  ·have hlt:(i:Int)<(n:Int):=by omega
   have hst:=hf.old HW.o hxB;have hrd:=HRd.o.sT hst;obtain⟨C,o,rfl⟩:=hrd.at (by omega);obtain⟨q0,q1,q2,q3,q4,q5,q6⟩:=rdX hrd hin;have hgi:=JM hN (l.take i) G HGd.o (fun y hy=>HRg.o y (List.mem_of_mem_take hy));have hns:=DB (l.take i) G;have hmem:cm l i∈l:=by rw[JQ (by rw[HLl.o];exact hin)];exact List.getElem_mem _
   have hry:=HRg.o _ hmem;have HSt0:Hid (YJ (l.take (i+1)) G=act1 (YJ (l.take i) G) (cm l i)):=hid (by
    unfold YJ;rw[Du _ _ _ (by rw[HLl.o];exact hin),JQ (by rw[HLl.o];exact hin)])
   obtain⟨Gi,eGi⟩:∃z,YJ (l.take i) G=z:=⟨_,rfl⟩;rw[eGi]at hg hgi hns HSt0;obtain⟨y,ey⟩:∃z,cm l i=z:=⟨_,rfl⟩;rw[ey]at hry HSt0;simp only[ey]at q0 q1 q2 q3 q4 q5 q6;obtain⟨T,hT0⟩:∃T:Nat,y.pe=(T:Int):=⟨y.pe.toNat,by have:=hry.1;omega⟩;have hT:T<N:=by have:=hry.2.1;omega
   have HMi:=hid hgi.1.1;have HLi:Hid ((Gi.ns.length+1)*24<=140737488355328):=hid (Nat.le_trans (Nat.mul_le_mul_right 24 (by rw[List.length_take,HLl.o]at hns;omega)) HLn.o);have HNx:=hid (show 0<=Gi.w.nx by have:=hgi.2.2.2.2.2.1;omega);have H48:=hid (flo_pw.1 hgi.2.1).1;have HNo:=hid (SP hN hgi hry);have HAc:=hid (fun u hu=>HD.o.act (mm Gi.w.ms T) y.v y.a y.b y.c u hu);have HEq:=hid (SO Gi y _ _ rfl rfl (by rw[hT0,HMi.o];simpa using hT) HNo.o);rw[hT0,Int.toNat_natCast]at HEq;obtain⟨m0,em0⟩:∃m,mm Gi.w.ms T=m:=⟨_,rfl⟩;have EM:=hid em0;rw[em0]at HAc HEq;obtain⟨m1,em1⟩:∃m,YR m0 y.v y.a y.b y.c=m:=⟨_,rfl⟩;obtain⟨dn,ed1⟩:∃m,Zt m0 y.v y.a y.b y.c=m:=⟨_,rfl⟩;obtain⟨e1,ee1⟩:∃m,YU m0 y.v y.a y.b y.c=m:=⟨_,rfl⟩;rw[em1,ed1,ee1]at HAc;rw[em1,ed1]at HEq;have A1:=sA wr (.cells (xcs y) 63);have HA1:=hid A1;have HP1:=hid (Xc wr y);have HX0:=hid (hst.trans A1);have HF:=hid hf;obtain⟨va,vb,vc,vd,ve,hx⟩:=hg.sT A1;obtain⟨gm,cpm,rfl,_,_⟩:=hx.o1.head (by rw[HMi.o];omega);rw[HMi.o]at hx;have HX:=hid hx;have HT0:=hid hT0;have hTl:(T:Int)<(N:Int):=by omega
   clear hg hgi hns eGi ey hry em0 em1 ed1 ee1 A1 hf hx hst hrd hmem hT0;go_upto_region 3 with fail;refine ZD 16 4 (.cells (mcs zM) 59 (0,0)) (.cells (mcs m1) 59 (0,0)) (by kernel_rfl) (by kernel_rfl) (by kernel_rfl) (by kernel_rfl) rfl rfl (fun u b=>XB rfl u) (fun u=>heap_alloc_new u _) ?_;apply Exists.intro;refine And.intro ?_ (And.intro ?_ ?_)
   ·intro u hu;obtain⟨k0,k1,k2,k3,k4,k5,k6,k7,k8,k9,k10,k11,k12,k13,k14,k15⟩:=(HX.o.sT hu).k.cl;obtain⟨l0,l1,l2,l3,l4,l5,l6,l7,l8,l9,l10,l11,l12⟩:=VE (HX.o.sT hu).o1 (i:=T) (by rw[HMi.o];exact hT) EM.o;obtain⟨n0,n1,n2,n3,n4,n5,n6⟩:=(HP1.o.sT hu).cl;rw[HT0.o]at n1;have HF2:=hid (fun z:Aft u=>HAc.o z.u (HX0.o.trans (hu.trans z.s)));have hne:=Aft.here u;simp only[Y4,tkd,tkq,Nat.reduceAdd];repeat(go_big_quiet_step ((first|(go_at_call 170;with_reducible exact Calls.cl (HF2.o _)))))
    exact wpQuiet_nil rfl
   ·exact fun u h hh=>XA rfl rfl rfl hh
   intro w2 g1 h2 hg1 hm1;have p2:Mb w2 g1 m1:=hm1;have HS2:=hid (HA1.o.trans h2);have HX2:=hid (HX.o.sT h2);have HP2:=hid (HP1.o.sT h2);have HX02:=hid (HX0.o.trans h2);clear q0 q1 q2 q3 q4 q5 q6 h2 hm1 HAc HX HP1 HA1 HX0;obtain⟨k0,k1,k2,k3,k4,k5,k6,k7,k8,k9,k10,k11,k12,k13,k14,k15⟩:=HX2.o.k.cl;obtain⟨l0,l1,l2,l3,l4,l5,l6,l7,l8,l9,l10,l11,l12⟩:=p2.cl;obtain⟨n0,n1,n2,n3,n4,n5,n6⟩:=HP2.o.cl;rw[HT0.o]at n1;have hne:=Aft.here w2;simp only[Act.put,tks];go_upto_region 4 with fail;refine Yp 9 (by kernel_rfl) (by kernel_rfl) ?_;simp only[tkd];repeat(go_big_quiet_step (fail))
   refine wpQuiet_nil ?_;intro w3 h3;have HS3:=hid (HS2.o.trans h3);have hX3:=HX2.o.sT h3;have HP3:=hid (HP2.o.sT h3);have HX03:=hid (HX02.o.trans h3);obtain⟨d0,d1,d2,d3,d4,d5,d6,d7,d8,d9,d10,d11,d12,df⟩:=owM hX3.o1 (i:=T) (by rw[HMi.o];exact hT);obtain⟨hX4,hT4⟩:=hX3.putM (i:=T) (by rw[HMi.o];exact hT) m1;obtain⟨W4,eW4⟩:∃W,(((((((((((((w3.setCell ⟨gm,T*13,none⟩ (.int .i64 m1.ax)).setCell ⟨gm,T*13+1,none⟩ (.int .i64 m1.ay)).setCell ⟨gm,T*13+2,none⟩ (.int .i64 m1.sx)).setCell ⟨gm,T*13+3,none⟩ (.int .i64 m1.sy)).setCell ⟨gm,T*13+4,none⟩ (.int .i64 m1.px)).setCell ⟨gm,T*13+5,none⟩ (.int .i64 m1.py)).setCell ⟨gm,T*13+6,none⟩ (.int .i64 m1.fc)).setCell ⟨gm,T*13+7,none⟩ (.int .i64 m1.hl)).setCell ⟨gm,T*13+8,none⟩ (.int .i64 m1.en)).setCell ⟨gm,T*13+9,none⟩ (.bool m1.sh)).setCell ⟨gm,T*13+10,none⟩ (.int .i64 m1.co)).setCell ⟨gm,T*13+11,none⟩ (.int .i64 m1.ou)).setCell ⟨gm,T*13+12,none⟩ (.int .i64 m1.sd))=W:=⟨_,rfl⟩;have HX4:Hid (Fx B W4 g S ⟨{ Gi.w with ms:=Gi.w.ms.set T m1 },Gi.ns⟩ (.slice (some ⟨gm,0,none⟩) N cpm) vb vc vd ve):=hid (by rw[<- eW4];exact hX4);have HT4:Hid (FrT B [59] w3 W4):=hid (by rw[<- eW4];exact hT4);have HF4:Hid (FrT B [104,59,69,47] w W4):=hid ((HF.o.then HS3.o).trans (HT4.o.mono (by simp)));have HP4:Hid (Xb W4 wr.heap.size y):=hid (HT4.o.kept HP3.o (by decide));have HX04:=hid (HT4.o.old HX03.o hxB);have hz4:B<=W4.heap.size:=by have:=HF4.o.size;omega
   clear h3 hne k0 k1 k2 k3 k4 k5 k6 k7 k8 k9 k10 k11 k12 k13 k14 k15 l0 l1 l2 l3 l4 l5 l6 l7 l8 l9 l10 l11 l12 n0 n1 n2 n3 n4 n5 n6 hX3 hX4 hT4 HX2 HS2 HS3 HP2 HP3 HX02 HX03 p2 HF HT4;obtain⟨n0,n1,n2,n3,n4,n5,n6,nf⟩:=HP4.o.cells;rw[HT0.o]at n1;by_cases h4:dn=true/\y.v=4
   ·obtain⟨rfl,hv4⟩:=h4;rw[hv4]at n3;have HEq2:Hid (act1 Gi y=Jj ⟨{ Gi.w with ms:=Gi.w.ms.set T m1 },Gi.ns⟩ (T:Int) y.a):=hid (by rw[HEq.o,if_pos ⟨rfl,hv4⟩]);have HFi:=hid (SD x S E HD.o B g _ T N y.a W4 HX04.o hz4 ⟨_,_,_,_,_,HX4.o⟩ (by simp only[List.length_set];exact HMi.o) hT HNx.o H48.o HLi.o);clear HX4 hv4;go_wp2_with fail;refine HFi.o.mono ?_;rintro e w5 ⟨⟨v5,rfl⟩,hg5,hf5⟩;have HG5:=hid hg5;have HF5:=hid (HF4.o.trans (hf5.mono (by simp)));clear hg5 hf5 HFi HF4 HP4 n0 n1 n2 n3 n4 n5 n6 nf d0 d1 d2 d3 d4 d5 d6 d7 d8 d9 d10 d11 d12 df eW4;go_wp2_with fail;go_roundw;case rel=>exact⟨i+1,by omega,by go_num,by rw[HSt0.o,HEq2.o];exact HG5.o,HF5.o⟩
    case measure=>first|(simp[intOf];done)|(simp[intOf];omega)
   by_cases h7:dn=true/\y.v=7
   ·obtain⟨rfl,hv7⟩:=h7;rw[hv7]at n3;have HEq2:Hid (act1 Gi y=⟨{ Gi.w with ms:=Gi.w.ms.set T m1 },Gi.ns ++ [⟨8,(T:Int),y.a⟩]⟩):=hid (by rw[HEq.o,if_neg (fun h=>by have:=h.2;omega),if_pos ⟨rfl,hv7⟩]);have HNt:=hid (Uh B g S _ 8 (T:Int) y.a W4 hz4 ⟨_,_,_,_,_,HX4.o⟩ HLi.o);clear HX4 hv7 h4;go_wp2_with fail;refine HNt.o.mono ?_;rintro e w5 ⟨⟨v5,rfl⟩,hg5,hf5⟩;have HG5:=hid hg5;have HF5:=hid (HF4.o.trans (hf5.mono (by simp)));clear hg5 hf5 HNt HF4 HP4 n0 n1 n2 n3 n4 n5 n6 nf d0 d1 d2 d3 d4 d5 d6 d7 d8 d9 d10 d11 d12 df eW4;go_wp2_with fail;go_roundw;case rel=>exact⟨i+1,by omega,by go_num,by rw[HSt0.o,HEq2.o];exact HG5.o,HF5.o⟩
    case measure=>first|(simp[intOf];done)|(simp[intOf];omega)
   ·have HEq2:Hid (act1 Gi y=⟨{ Gi.w with ms:=Gi.w.ms.set T m1 },Gi.ns⟩):=hid (by rw[HEq.o,if_neg h4,if_neg h7]);obtain⟨yv,eyv⟩:∃v,y.v=v:=⟨_,rfl⟩;rw[eyv]at n3 h4 h7;clear eyv;cases dn with
    | false =>
     clear h4 h7;go_wp2_with fail;go_roundw;case rel=>exact⟨i+1,by omega,by go_num,by rw[HSt0.o,HEq2.o];exact⟨_,_,_,_,_,HX4.o⟩,HF4.o⟩
     case measure=>first|(simp[intOf];done)|(simp[intOf];omega)
    | true =>
     have g4:(yv == 4)=false:=by simpa using h4
     have g7:(yv == 7)=false:=by simpa using h7
     clear h4 h7;go_wp2_with fail;go_roundw;case rel=>exact⟨i+1,by omega,by go_num,by rw[HSt0.o,HEq2.o];exact⟨_,_,_,_,_,HX4.o⟩,HF4.o⟩
     case measure=>first|(simp[intOf];done)|(simp[intOf];omega)
  ·have hge:¬(i:Int)<(n:Int):=by omega
   obtain rfl:i=n:=by omega
   have HTk:Hid (l.take i=l):=hid (List.take_of_length_le (by rw[HLl.o];omega));have HF:=hid hf;have HG:=hid hg;clear hg hf hin;go_wp2_with fail;go_end0;refine⟨⟨_,rfl⟩,by rw[<- HTk.o];exact HG.o,HF.o⟩
theorem Vo{o:Oper}{ρ:Operand->Value}{x y:Operand}{gm N cp A:Nat}(ho:o.op=.indexAddr 28 x y)(hx:ρ x=.slice (some ⟨gm,0,none⟩) N cp)(hy:ρ y=.int .i64 (A:Int))(hA:(A:Int)<(N:Int))(u:World):(execOp ρ o).run Tryz.prog u=.ok (.value (.pointer (some ⟨gm,A*13,none⟩))) u:=by
 unfold execOp;rw[ho];simp only[hx,hy];go_simp
theorem DC{o:Oper}{ρ:Operand->Value}{x y:Operand}{u:World}{gm off:Nat}{m:Mv}(ho:o.op=.store 59 x y)(hx:ρ x=.pointer (some ⟨gm,off,none⟩))(hy:ρ y=mv m)(hc:∀j,j<13->∃v,u.cell? ⟨gm,off+j,none⟩=some v)(hf:∀o,u.frozen? ⟨gm,o,none⟩=false):(execOp ρ o).run Tryz.prog u=.ok .skip (u.setCells gm off (KM.f m)):=by
 obtain⟨v0,c0⟩:=hc 0 (by omega);obtain⟨v1,c1⟩:=hc 1 (by omega);obtain⟨v2,c2⟩:=hc 2 (by omega);obtain⟨v3,c3⟩:=hc 3 (by omega);obtain⟨v4,c4⟩:=hc 4 (by omega);obtain⟨v5,c5⟩:=hc 5 (by omega);obtain⟨v6,c6⟩:=hc 6 (by omega);obtain⟨v7,c7⟩:=hc 7 (by omega);obtain⟨v8,c8⟩:=hc 8 (by omega);obtain⟨v9,c9⟩:=hc 9 (by omega);obtain⟨v10,c10⟩:=hc 10 (by omega);obtain⟨v11,c11⟩:=hc 11 (by omega);obtain⟨v12,c12⟩:=hc 12 (by omega);rw[Nat.add_zero]at c0;clear hc;unfold execOp;rw[ho];simp only[hx,hy];go_simp;try rfl
theorem SR{o:Oper}{ρ:Operand->Value}{x:Operand}{b k:Nat}{v:Int}(ho:o.op=.load 3 x)(hx:ρ x=.pointer (some ⟨b,k,none⟩))(u:World)(hc:u.cell? ⟨b,k,none⟩=some (.int .i64 v)):(execOp ρ o).run Tryz.prog u=.ok (.value (.int .i64 v)) u:=by
 unfold execOp;rw[ho];simp only[hx];go_simp
theorem SS{o:Oper}{ρ:Operand->Value}{x:Operand}{b:Nat}(ho:o.op=.fieldAddr 126 x 1)(hx:ρ x=.pointer (some ⟨b,0,none⟩))(u:World):(execOp ρ o).run Tryz.prog u=.ok (.value (.pointer (some ⟨b,1,none⟩))) u:=by
 unfold execOp;rw[ho];simp only[hx];go_simp
theorem ST(x:World)(S:Se)(E:Env)(D:P13 x S.F E)(B g:Nat)(G:Gm)(N:Nat)(w:World)(hB:B<=w.heap.size)(h:FmM B w g S G)(hM:G.w.ms.length=N)(hN:N<=6)(h47:(G.ns.length+40)*24<=140737488355328) :
  Calls Tryz.prog 108 #[.pointer (some ⟨g,0,none⟩)] w fun e w'=>(∃v,e=.returned v)/\FmM B w' g S (YT (bod G.w.ms) G)/\FrT B [104,59,47] w w':=by
 have HD:=hid D;have H:=hid h;obtain⟨va,vb,vc,vd,ve,hx⟩:=h;obtain⟨ao,cpm,rfl,_⟩:=hx.o1.slice;have hr1:=Zn hx.o1 (by omega);have HBd:=hid (HD.o.bod G.w.ms ao G.w.ms.length cpm w hr1);have c0c:=hx.k.cells;have HLn:=hid h47;have HMl:=hid hM;obtain⟨l,el⟩:∃l,bod G.w.ms=l:=⟨_,rfl⟩;have HEl:=hid el;obtain⟨n,en⟩:∃n,l.length=n:=⟨_,rfl⟩;have HEn:=hid en;have HN36:Hid (n<=36):=hid (by rw[<- en,<- el];exact GW);rw[el]at HBd;rw[el];clear hx D hr1 h47 hM el en;go_in
 go_wp21
 refine HBd.o.mono ?_;rintro e w1 ⟨v1,rfl,ho1,h1⟩;obtain⟨mo,mcp,hv,_⟩:=ho1.slice;rw[HEn.o]at hv;subst hv;have HO1:=hid ho1;have HS1:=hid h1;have HG1:=hid (H.o.sT h1);go_wp21
 go_loopw [17] (fun u wr=>∃i:Nat,i<=n/\u=.int .i64 (i:Int)/\FmM B wr g S (YT (l.take i) G)/\FrT B [104,59,47] w1 wr) (fun u _=>n-(intOf u).toNat);case atStart=>exact⟨0,by omega,rfl,HG1.o,FrT.refl _ _ _⟩
 case round =>
  obtain⟨i,hi,rfl,hg,hf⟩:=hrel;have hn36:=HN36.o;by_cases hin:i<n
  ·have hlt:(i:Int)<(n:Int):=by omega
   have hO:=HO1.o.keepT hf (by decide);obtain⟨gt,cpt,hv,hv1,hv2⟩:=hO.head (by rw[HEn.o];omega);simp only[Value.slice.injEq]at hv;obtain⟨rfl,hv3,hv4⟩:=hv;obtain⟨q0,q1,qf⟩:=owT hO (i:=i) (by rw[HEn.o];omega);obtain⟨A,T,eAT,hA,hT⟩:=N9 (L:=G.w.ms) (k:=i) (by rw[HEl.o,HEn.o];exact hin);rw[HEl.o]at eAT;rw[HMl.o]at hA hT;simp only[eAT]at q0 q1;have hk:=Dt (l.take i) G;have HSt0:Hid (YT (l.take (i+1)) G=ZS (YT (l.take i) G) ((A:Int),(T:Int))):=hid (by rw[NA _ _ (by rw[HEn.o];exact hin),eAT]);obtain⟨Gi,eGi⟩:∃z,YT (l.take i) G=z:=⟨_,rfl⟩;rw[eGi]at hg hk HSt0;have HMi:=hid (hk.1.trans HMl.o);have HLi:Hid ((Gi.ns.length+1)*24<=140737488355328):=hid (Nat.le_trans (Nat.mul_le_mul_right 24 (by have h5:=hk.2;rw[List.length_take]at h5;omega)) HLn.o);have HF:=hid hf;have hAl:(A:Int)<(N:Int):=by omega
   have hTl:(T:Int)<(N:Int):=by omega
   have A1:=sA wr (.cells #[.int .i64 (A:Int),.int .i64 (T:Int)] 126);have HA1:=hid A1;have HMt:=hid (heap_alloc_new wr (.cells #[.int .i64 (A:Int),.int .i64 (T:Int)] 126));obtain⟨va,vb,vc,vd,ve,hx⟩:=hg.sT A1;obtain⟨gm,cpm2,rfl,_,_⟩:=hx.o1.head (by rw[HMi.o];omega);rw[HMi.o]at hx;have HX:=hid hx;have HAp:=hid (fun u=>HD.o.apt (mm Gi.w.ms A) (mm Gi.w.ms T) u);have HSt:Hid (ZS Gi ((A:Int),(T:Int))=⟨{ Gi.w with ms:=(Gi.w.ms.set A (Zq (mm Gi.w.ms A) (mm Gi.w.ms T))).set T (Zq (mm Gi.w.ms T) (mm Gi.w.ms A)) },Gi.ns ++ [⟨7,(A:Int),(T:Int)⟩]⟩):=hid (by
    unfold ZS;simp)
   obtain⟨a0,ea0⟩:∃m,mm Gi.w.ms A=m:=⟨_,rfl⟩;obtain⟨b0,eb0⟩:∃m,mm Gi.w.ms T=m:=⟨_,rfl⟩;have EA:=hid ea0;have EB:=hid eb0;rw[ea0,eb0]at HAp HSt;obtain⟨a1,ea1⟩:∃m,Zq a0 b0=m:=⟨_,rfl⟩;obtain⟨b1,eb1⟩:∃m,Zq b0 a0=m:=⟨_,rfl⟩;obtain⟨e1,ee1⟩:∃m,Zp (ZR a0 b0)=m:=⟨_,rfl⟩;rw[ea1,eb1,ee1]at HAp;rw[ea1,eb1]at HSt;clear hg hk eGi hf hO hv1 hv2 hv3 hv4 eAT A1 hx ea0 eb0 ea1 eb1 ee1;go_upto_region 4 with fail;have hgne:gm≠wr.heap.size:=fun e=>by
    obtain⟨cur,h5⟩:=HX.o.o1.ty (k:=gm) rfl;rw[e,HMt.o]at h5;have h6:=Option.some.inj h5;injection h6 with _ h7 _;exact absurd h7 (by decide)
   refine Ky 37 2 [12,13] (by kernel_rfl) (by kernel_rfl) (by kernel_rfl) ?_;apply Exists.intro;refine And.intro ?_ (And.intro ?_ (And.intro ?_ ?_))
   ·intro u hu;have k0c:=(HX.o.sT hu).k.cl;obtain⟨l0,l1,l2,l3,l4,l5,l6,l7,l8,l9,l10,l11,l12⟩:=VE (HX.o.sT hu).o1 (i:=A) (by rw[HMi.o];exact hA) EA.o;obtain⟨j0,j1,j2,j3,j4,j5,j6,j7,j8,j9,j10,j11,j12⟩:=VE (HX.o.sT hu).o1 (i:=T) (by rw[HMi.o];exact hT) EB.o;have hb:=hu.kept_still HMt.o;have m0:=kC (w:=u) (p:=⟨wr.heap.size,0,none⟩) (v:=.int .i64 (A:Int)) (by rw[cell_of_row _ _ _ _ _ _ hb];rfl);have m1:=kC (w:=u) (p:=⟨wr.heap.size,1,none⟩) (v:=.int .i64 (T:Int)) (by rw[cell_of_row _ _ _ _ _ _ hb];rfl);have hne:=Aft.here u;simp only[List.take_succ_cons,List.take_zero];repeat(go_big_quiet_step ((first|(go_at_call 175;with_reducible exact Calls.cl (HAp.o _)))))
    exact wpQuiet_nil rfl
   ·intro k o B' u hk ho hR;obtain rfl|rfl:k=0\/k=1:=by omega
    ·cases hR with
     | zero hs =>
      obtain rfl:=Option.some.inj ho;exact .inl ⟨_,_,Vo rfl rfl rfl hAl _⟩
    ·cases hR with
     | value h1 h2 h3 =>
      cases h1 with
      | zero hs =>
       obtain rfl:=Option.some.inj h2;rw[Vo rfl rfl rfl hAl]at h3;simp only[Result.ok.injEq,Next.value.injEq]at h3;obtain⟨rfl,rfl⟩:=h3;obtain rfl:=Option.some.inj ho;exact .inr ⟨_,DC (gm:=gm) (off:=A*13) (m:=a1) rfl rfl rfl (fun j hj=>⟨_,(HX.o.sT hs).o1.get (i:=A) (by rw[HMi.o];exact hA) j _ (List.getElem?_eq_getElem (by rw[KM.len];exact hj))⟩) ((HX.o.sT hs).o1.frozen)⟩
     | skip h1 h2 h3 =>
      cases h1 with
      | zero hs =>
       obtain rfl:=Option.some.inj h2;rw[Vo rfl rfl rfl hAl]at h3;simp at h3
   ·intro j o t hj hx ho ht k B' u hk0 hk2 hR;have hcell:u.cell? ⟨wr.heap.size,1,none⟩=some (.int .i64 (T:Int)):=by
     obtain rfl|rfl:k=1\/k=2:=by omega
     ·cases hR with
      | value h1 h2 h3 =>
       cases h1 with
       | zero hs =>
        obtain rfl:=Option.some.inj h2;rw[Vo rfl rfl rfl hAl]at h3;simp only[Result.ok.injEq,Next.value.injEq]at h3;obtain⟨_,rfl⟩:=h3;rw[cell_of_row _ _ _ _ _ _ (hs.kept_still HMt.o)];rfl
      | skip h1 h2 h3 =>
       cases h1 with
       | zero hs =>
        obtain rfl:=Option.some.inj h2;rw[Vo rfl rfl rfl hAl]at h3;simp at h3
     ·cases hR with
      | value h1 h2 h3 =>
       cases h1 with
       | value k1 k2 k3 =>
        cases k1 with
        | zero hs =>
         obtain rfl:=Option.some.inj k2;rw[Vo rfl rfl rfl hAl]at k3;simp only[Result.ok.injEq,Next.value.injEq]at k3;obtain⟨rfl,rfl⟩:=k3;obtain rfl:=Option.some.inj h2;rw[DC (gm:=gm) (off:=A*13) (m:=a1) rfl rfl rfl (fun j hj=>⟨_,(HX.o.sT hs).o1.get (i:=A) (by rw[HMi.o];exact hA) j _ (List.getElem?_eq_getElem (by rw[KM.len];exact hj))⟩) ((HX.o.sT hs).o1.frozen)]at h3;simp at h3
       | skip k1 k2 k3 =>
        cases k1 with
        | zero hs =>
         obtain rfl:=Option.some.inj k2;rw[Vo rfl rfl rfl hAl]at k3;simp at k3
      | skip h1 h2 h3 =>
       cases h1 with
       | value k1 k2 k3 =>
        cases k1 with
        | zero hs =>
         obtain rfl:=Option.some.inj k2;rw[Vo rfl rfl rfl hAl]at k3;simp only[Result.ok.injEq,Next.value.injEq]at k3;obtain⟨rfl,rfl⟩:=k3;obtain rfl:=Option.some.inj h2;rw[DC (gm:=gm) (off:=A*13) (m:=a1) rfl rfl rfl (fun j hj=>⟨_,(HX.o.sT hs).o1.get (i:=A) (by rw[HMi.o];exact hA) j _ (List.getElem?_eq_getElem (by rw[KM.len];exact hj))⟩) ((HX.o.sT hs).o1.frozen)]at h3;simp only[Result.ok.injEq,true_and]at h3;subst h3;rw[cell_of_row _ _ _ _ _ _ ((UW (KM.f a1) _ gm (A*13) wr.heap.size (Ne.symm hgne)).trans (hs.kept_still HMt.o))];rfl
       | skip k1 k2 k3 =>
        cases k1 with
        | zero hs =>
         obtain rfl:=Option.some.inj k2;rw[Vo rfl rfl rfl hAl]at k3;simp at k3
    have hj2:j=12\/j=13:=by simpa using hx
    rcases hj2 with rfl|rfl
    ·obtain rfl:=Option.some.inj ho;obtain rfl:=Option.some.inj ht;exact SS rfl rfl u
    ·obtain rfl:=Option.some.inj ho;obtain rfl:=Option.some.inj ht;exact SR rfl rfl u hcell
   intro w2 h2;simp only[List.drop_succ_cons,List.drop_zero];have hX2:=HX.o.sT h2;have HS2:=hid (HA1.o.trans h2);have HMt2:=hid (h2.kept_still HMt.o);clear q0 q1 qf;obtain⟨d0,d1,d2,d3,d4,d5,d6,d7,d8,d9,d10,d11,d12,df⟩:=owM hX2.o1 (i:=A) (by rw[HMi.o];exact hA);obtain⟨hX3,hT3⟩:=hX2.putM (i:=A) (by rw[HMi.o];exact hA) a1;obtain⟨W3,eW3⟩:∃W,(((((((((((((w2.setCell ⟨gm,A*13,none⟩ (.int .i64 a1.ax)).setCell ⟨gm,A*13+1,none⟩ (.int .i64 a1.ay)).setCell ⟨gm,A*13+2,none⟩ (.int .i64 a1.sx)).setCell ⟨gm,A*13+3,none⟩ (.int .i64 a1.sy)).setCell ⟨gm,A*13+4,none⟩ (.int .i64 a1.px)).setCell ⟨gm,A*13+5,none⟩ (.int .i64 a1.py)).setCell ⟨gm,A*13+6,none⟩ (.int .i64 a1.fc)).setCell ⟨gm,A*13+7,none⟩ (.int .i64 a1.hl)).setCell ⟨gm,A*13+8,none⟩ (.int .i64 a1.en)).setCell ⟨gm,A*13+9,none⟩ (.bool a1.sh)).setCell ⟨gm,A*13+10,none⟩ (.int .i64 a1.co)).setCell ⟨gm,A*13+11,none⟩ (.int .i64 a1.ou)).setCell ⟨gm,A*13+12,none⟩ (.int .i64 a1.sd))=W:=⟨_,rfl⟩;have hx3:Fx B W3 g S ⟨{ Gi.w with ms:=Gi.w.ms.set A a1 },Gi.ns⟩ (.slice (some ⟨gm,0,none⟩) N cpm2) vb vc vd ve:=by rw[<- eW3];exact hX3
   have ht3:FrT B [59] w2 W3:=by rw[<- eW3];exact hT3
   obtain⟨z0,z1,z2,z3,z4,z5,z6,z7,z8,z9,z10,z11,z12,zf⟩:=owM hx3.o1 (i:=T) (by simp only[List.length_set,HMi.o];exact hT);obtain⟨hX4,hT4⟩:=hx3.putM (i:=T) (by simp only[List.length_set,HMi.o];exact hT) b1;obtain⟨W4,eW4⟩:∃W,(((((((((((((W3.setCell ⟨gm,T*13,none⟩ (.int .i64 b1.ax)).setCell ⟨gm,T*13+1,none⟩ (.int .i64 b1.ay)).setCell ⟨gm,T*13+2,none⟩ (.int .i64 b1.sx)).setCell ⟨gm,T*13+3,none⟩ (.int .i64 b1.sy)).setCell ⟨gm,T*13+4,none⟩ (.int .i64 b1.px)).setCell ⟨gm,T*13+5,none⟩ (.int .i64 b1.py)).setCell ⟨gm,T*13+6,none⟩ (.int .i64 b1.fc)).setCell ⟨gm,T*13+7,none⟩ (.int .i64 b1.hl)).setCell ⟨gm,T*13+8,none⟩ (.int .i64 b1.en)).setCell ⟨gm,T*13+9,none⟩ (.bool b1.sh)).setCell ⟨gm,T*13+10,none⟩ (.int .i64 b1.co)).setCell ⟨gm,T*13+11,none⟩ (.int .i64 b1.ou)).setCell ⟨gm,T*13+12,none⟩ (.int .i64 b1.sd))=W:=⟨_,rfl⟩;have HX4:Hid (Fx B W4 g S ⟨{ Gi.w with ms:=(Gi.w.ms.set A a1).set T b1 },Gi.ns⟩ (.slice (some ⟨gm,0,none⟩) N cpm2) vb vc vd ve):=hid (by
    have e4:W3.setCells gm (T*KM.k) (KM.f b1)=W4:=eW4;rw[<- e4];have h7:=hX4;exact h7)
   have HT4:Hid (FrT B [59] w2 W4):=hid (ht3.trans (by
    have e4:W3.setCells gm (T*KM.k) (KM.f b1)=W4:=eW4;rw[<- e4];exact hT4))
   have HF4:Hid (FrT B [104,59,47] w1 W4):=hid ((HF.o.then HS2.o).trans (HT4.o.mono (by simp)));have hb4:=HT4.o.kept HMt2.o (by decide);have p0:W4.cell? ⟨wr.heap.size,0,none⟩=some (.int .i64 (A:Int)):=by rw[cell_of_row _ _ _ _ _ _ hb4];rfl
   have p1:W4.cell? ⟨wr.heap.size,1,none⟩=some (.int .i64 (T:Int)):=by rw[cell_of_row _ _ _ _ _ _ hb4];rfl
   have HNt:=hid (Uh B g S _ 7 (A:Int) (T:Int) W4 (by have:=HS1.o.size;have:=HF4.o.size;omega) ⟨_,_,_,_,_,HX4.o⟩ HLi.o);clear h2 hX2 hX3 hT3 hx3 ht3 hX4 hT4 hb4 HX HS2 HMt HMt2 HF HAp HA1 HX4 HT4;go_wp21
   refine⟨rfl,?_⟩;clear d0 d1 d2 d3 d4 d5 d6 d7 d8 d9 d10 d11 d12 df z0 z1 z2 z3 z4 z5 z6 z7 z8 z9 z10 z11 z12 zf eW3 eW4;go_wp21
   refine HNt.o.mono ?_;rintro e w5 ⟨⟨v5,rfl⟩,hg5,hf5⟩;have HG5:=hid hg5;have HF5:=hid (HF4.o.trans (hf5.mono (by simp)));clear hg5 hf5 HNt HF4 p0 p1;go_wp21
   go_roundw;case rel=>exact⟨i+1,by omega,by go_num,by rw[HSt0.o,HSt.o];exact HG5.o,HF5.o⟩
   case measure=>first|(simp[intOf];done)|(simp[intOf];omega)
  ·have hge:¬(i:Int)<(n:Int):=by omega
   obtain rfl:i=n:=by omega
   have HTk:Hid (l.take i=l):=hid (List.take_of_length_le (by rw[HEn.o];omega));have HF:=hid hf;have HG:=hid hg;clear hg hf hin;go_wp21
   go_end0;refine⟨⟨_,rfl⟩,by rw[<- HTk.o];exact HG.o,(FrT.of_still HS1.o).trans HF.o⟩
theorem F2(E:Env)(L:List Sh){i:Nat}(h:i<L.length):Yq E (L.take (i+1))=Yq E (L.take i) ++ (if YY E.sol (ss L i)then [Z6 E.sol (ss L i)]else []):=by
 rw[ZZ h];unfold Yq;rw[List.take_succ_eq_append_getElem h,List.filter_append,List.map_append];congr 1
 cases e:YY E.sol L[i]<;>simp[e]
theorem Q3(E:Env)(L:List Sh):(Yq E L).length<=L.length:=by
 unfold Yq;rw[List.length_map];exact List.length_filter_le _ _
theorem SU(x:World)(S:Se)(E:Env)(D:P13 x S.F E)(B g:Nat)(G:Gm)(w:World)(hB:B<=w.heap.size)(h:FmM B w g S G)(h48:G.w.hs.length<=48) :
  Calls Tryz.prog 109 #[.pointer (some ⟨g,0,none⟩)] w fun e w'=>(∃v,e=.returned v)/\FmM B w' g S (Vk E G)/\FrT B [104] w w':=by
 have HD:=hid D;obtain⟨va,vb,vc,vd,ve,hx⟩:=h;obtain⟨ao,cpm,rfl,_⟩:=hx.o3.slice;obtain⟨N,eN⟩:∃n,G.w.hs.length=n:=⟨_,rfl⟩;have HN:=hid eN;rw[eN]at hx h48;have HX:=hid hx;obtain⟨c0,c1,c2,c3,c4,c5,c6,c7,c8,c9,c10,c11,c12,c13,c14,c15,cf⟩:=hx.k.cells;clear hx D eN;go_enter Tryz.func109,Tryz.ntmps109;go_wp2_with fail;clear c0 c1 c2 c3 c4 c5 c6 c7 c8 c9 c10 c11 c12 c13 c14 c15 cf;go_loopw [2,14] (fun v u wr=>∃i:Nat,i<=N/\u=.int .i64 (i:Int)/\OwG KS 69 wr w.heap.size v (Yq E (G.w.hs.take i))/\Yc w wr) (fun _ u _=>N-(intOf u).toNat);case atStart=>exact⟨0,by omega,rfl,OwG.nil _ _,Fr.refl _ _⟩
 case round =>
  obtain⟨i,hi,rfl,ho,hs⟩:=hrel;have hx:=HX.o.sT hs;by_cases hin:i<N
  ·have hlt:(i:Int)<(N:Int):=by omega
   obtain⟨gm,cpm',hv,hv3,_⟩:=hx.o3.head (by rw[HN.o];omega);simp only[Value.slice.injEq]at hv;obtain⟨rfl,hv1,hv2⟩:=hv;clear hv1 hv2 hv3;obtain⟨fo,fcp,rfl,hfo⟩:=ho.slice;have HFo:=hid hfo;have HFl:=hid (fun u=>HD.o.fly (ss G.w.hs i) u);have HLn:Hid ((Yq E (G.w.hs.take i)).length<=i):=hid (by have:=Q3 E (G.w.hs.take i);rw[List.length_take]at this;omega);have HStp:=hid (F2 E G.w.hs (i:=i) (by rw[HN.o];omega));obtain⟨d0,d1,d2,d3,d4,d5,d6,d7,df⟩:=owS hx.o3 (i:=i) (by rw[HN.o];omega);obtain⟨s0,es0⟩:∃m,ss G.w.hs i=m:=⟨_,rfl⟩;simp only[es0]at d0 d1 d2 d3 d4 d5 d6 d7;rw[es0]at HFl HStp;obtain⟨s1,es1⟩:∃m,Z6 E.sol s0=m:=⟨_,rfl⟩;obtain⟨on,eon⟩:∃m,YY E.sol s0=m:=⟨_,rfl⟩;obtain⟨e1,ee1⟩:∃m,YM s0=m:=⟨_,rfl⟩;rw[es1,eon,ee1]at HFl;rw[es1,eon]at HStp;obtain⟨F0,eF⟩:∃m,Yq E (G.w.hs.take i)=m:=⟨_,rfl⟩;rw[eF]at HStp HLn ho;rw[eF];have A1:=sA wr (.cells (scs s0) 69);have HX1:=hid (hx.sT A1);have HP1:=hid (Ua wr s0);have HA1:=hid (hs.trans A1);have HO1:=hid (ho.sT A1);clear es0 es1 eon ee1 eF hx hs A1 ho hfo;go_upto_region 4 with fail;refine ZD 12 5 (.cells (scs zS) 69 (0,0)) (.cells (scs s1) 69 (0,0)) (by kernel_rfl) (by kernel_rfl) (by kernel_rfl) (by kernel_rfl) rfl rfl (fun u b=>Qu rfl u) (fun u=>heap_alloc_new u _) ?_;apply Exists.intro;refine And.intro ?_ (And.intro ?_ ?_)
   ·intro u hu;obtain⟨k0,k1,k2,k3,k4,k5,k6,k7,k8,k9,k10,k11,k12,k13,k14,k15⟩:=(HX1.o.sT hu).k.cl;obtain⟨l0,l1,l2,l3,l4,l5,l6,l7⟩:=(HP1.o.sT hu).cl;have hne:=Aft.here u;simp only[Y4,tkd,tkq,Nat.reduceAdd];repeat(go_big_quiet_step ((first|(go_at_call 176;with_reducible exact Calls.cl (HFl.o _)))))
    exact wpQuiet_nil rfl
   ·exact fun u h hh=>Qt rfl rfl rfl hh
   intro w2 g1 h2 hg1 hm1;have p2:Sb w2 g1 s1:=hm1;have HS2:=hid (HA1.o.trans h2);have HO2:=hid (HO1.o.sT h2);clear d0 d1 d2 d3 d4 d5 d6 d7 df hm1 HFl HX1 HP1 HA1 HO1 h2;simp only[Act.put,tks];cases on with
   | false =>
    clear p2;go_wp2_with fail;go_roundw;case rel=>exact⟨i+1,by omega,by go_num,by rw[HStp.o];simpa using HO2.o,HS2.o⟩
    case measure=>first|(simp[intOf];done)|(simp[intOf];omega)
   | true =>
    obtain⟨d0,d1,d2,d3,d4,d5,d6,d7,df⟩:=p2.cells;have A3:=sA w2 (.cells (scs s1) 69);have HO3:=hid (HO2.o.sT A3);have HS3:=hid (HS2.o.trans A3);have HY3:Hid ((w2.alloc (.cells (scs s1) 69)).heap[w2.heap.size]?=some (.cells (scs s1) 69 (0,0))):=hid (heap_alloc_new w2 _);have HB3:Hid (w.heap.size<=(w2.alloc (.cells (scs s1) 69)).heap.size):=hid HS3.o.size;have HL3:Hid ((F0.length+1)*64<=140737488355328):=hid (by have:=HLn.o;omega);clear A3 p2;go_wp2_with (
     at_builtin;refine ZA KS _ rfl _ _ 30 rfl Tryz.underlying30 64 VI w.heap.size w2.heap.size _ F0 s1 rfl rfl HO3.o HY3.o HL3.o (by have:=HL3.o;omega) HB3.o ?_;intro v' w' ho' hf';have HO:=hid ho';have HSt:=hid (XO HS3.o HO3.o hf' (Nat.le_refl _));clear ho' hf')
    go_roundw;case rel=>exact⟨i+1,by omega,by go_num,by rw[HStp.o];simpa using HO.o,HSt.o⟩
    case measure=>first|(simp[intOf];done)|(simp[intOf];omega)
  ·have hge:¬(i:Int)<(N:Int):=by omega
   obtain rfl:i=N:=by omega
   have HX1:=hid hx;have HS:=hid hs;obtain⟨fo,fcp,rfl,hfo⟩:=ho.slice;have HO:=hid ho;obtain⟨c0,c1,c2,c3,c4,c5,c6,c7,c8,c9,c10,c11,c12,c13,c14,c15,cf⟩:=hx.k.cells;clear hx hs hin ho hfo;go_wp2_with fail;go_end0;refine⟨⟨_,rfl⟩,?_,?_⟩
   ·have h1:=HX1.o.setC _ _ (HO.o.less hB);have e:Vk E G=⟨{ G.w with hs:=Yq E (G.w.hs.take i) },G.ns⟩:=by
     unfold Vk;rw[List.take_of_length_le (by rw[HN.o];omega)]
    rw[e];exact⟨_,_,_,_,_,h1⟩
   ·exact(FrT.of_still HS.o).trans (HX1.o.frT _ _)
theorem take_len(Q:List Pk):∀(l:List (Int × Int)) (g:Gm),(YE Q l g).w.ms.length=g.w.ms.length/\(YE Q l g).w.cs.length=g.w.cs.length/\(YE Q l g).ns.length=g.ns.length+l.length
 | [],_=>⟨rfl,rfl,by simp[YE]⟩
 | t :: l,g=>by
  have h:=take_len Q l (Yy Q g t);refine⟨h.1.trans (by simp[Yy]),h.2.1.trans (by simp[Yy]),?_⟩;have h3:(YE Q (t :: l) g).ns.length=_:=h.2.2;rw[h3,List.length_cons];simp[Yy];omega
theorem F3{L:List Mv}{Q:List Pk}{T:List (Int × Int)}{k:Nat}(h:k<(pic L Q T).length):∃i j:Nat,pp (pic L Q T) k=((i:Int),(j:Int))/\i<Q.length/\j<L.length:=by
 have hm:pp (pic L Q T) k∈pic L Q T:=by rw[JT h];exact List.getElem_mem h
 have h1:=(Hg.pic_rise (L:=L) (Q:=Q) (T:=T)).2 _ hm;have h2:=Nd _ hm;have h3:=M5 _ hm;exact⟨(pp (pic L Q T) k).1.toNat,(pp (pic L Q T) k).2.toNat,Prod.ext (by simp;omega) (by simp;omega),h2.1,h2.2⟩
theorem SV(x:World)(S:Se)(E:Env)(D:P13 x S.F E)(B B0 g:Nat)(G:Gm)(N:Nat)(w:World)(hB:B<=w.heap.size)(h:FmM B w g S G)(hM:G.w.ms.length=N)(hC:G.w.cs.length=N)(hN:N<=6)(h8:G.w.ks.length<=8)(hsp:OwG KT 57 w B0 S.sp E.sp)(hs16:E.sp.length<=16)(h47:(G.ns.length+10)*24<=140737488355328) :
  Calls Tryz.prog 111 #[.pointer (some ⟨g,0,none⟩)] w fun e w'=>(∃v,e=.returned v)/\FmM B w' g S (Xo E G)/\FrT B [104,59,67,47] w w':=by
 have HD:=hid D;have H:=hid h;obtain⟨va,vb,vc,vd,ve,hx⟩:=h;obtain⟨ao,cpm,rfl,_⟩:=hx.o1.slice;obtain⟨so,scp,rfl,_⟩:=hx.o4.slice;obtain⟨po,pcp,ep,_⟩:=hsp.slice;have HX:=hid hx;have hr1:=Zn hx.o1 (by omega);have hr4:=UU (Zn hx.o4 (by omega));have hcap:=(Kj hx.o4).2;have hr7:RdG KT w po E.sp.length E.sp:=Zn (n:=E.sp.length) (cap:=pcp) (by rw[<- ep];exact hsp) (by omega);have HSh:=hid (fun u (hu:Yc w u)=>HD.o.pic G.w.ms G.w.ks E.sp ao G.w.ms.length cpm so G.w.ks.length scp po E.sp.length pcp u (hr1.sT hu) (hr4.sT hu) (hr7.sT hu) hcap);obtain⟨c0,c1,c2,c3,c4,c5,c6,c7,c8,c9,c10,c11,c12,c13,c14,c15,cf⟩:=hx.k.cells;rw[ep]at c7;have HLn:=hid h47;have HMl:=hid hM;have HCl:=hid hC;have HS8:=hid h8;obtain⟨l,el⟩:∃l,pic G.w.ms G.w.ks E.sp=l:=⟨_,rfl⟩;have HEl:=hid el;obtain⟨n,en⟩:∃n,l.length=n:=⟨_,rfl⟩;have HEn:=hid en;have HN8:Hid (n<=8):=hid (by rw[<- en,<- el];exact KZ);rw[el]at HSh;clear hx D hr1 hr4 hr7 hcap h47 hM hC h8 el en ep hsp hs16;go_enter Tryz.func111,Tryz.ntmps111;go_upto_region 0 with fail;rename_i K0 a0;refine DA (K:=K0) (R:=fun(mo:Option Addr) (mcp:Nat) u=>OwG KT 126 u w.heap.size (.slice mo n mcp) l/\Yc w u) ?_;apply Exists.intro;refine And.intro ?_ ?_
 ·intro hk;go_region_with (go_at_call 180;refine(HSh.o _ (by first|exact Fr.refl _ _|exact(Fr.refl _ w).drew|exact(Fr.refl _ w).drewN _)).mono ?_;rintro e w1 ⟨v1,rfl,ho1,h1⟩;obtain⟨mo,mcp,hv,_⟩:=ho1.slice;rw[HEn.o]at hv;subst hv;have g1:Yc w w1:=(by first|exact h1|exact Yc.trans ((Fr.refl _ w).drew) h1|exact Yc.trans ((Fr.refl _ w).drewN _) h1);have HO1:=hid (ho1.less (B':=w.heap.size) (by simp));have HG1:=hid g1;clear ho1 h1 g1)
  all_goals show K0 _ _
  all_goals simp only[Act.put,List.setIfInBounds_toArray]
  all_goals exact hk mo mcp _ ⟨HO1.o,HG1.o⟩
 intro mo mcp w1 ⟨ho1,h1⟩;have HO1:=hid ho1;have HS1:=hid h1;have HG1:=hid (H.o.sT h1);refine a0 _ _ ?_;clear c0 c1 c2 c3 c4 c5 c6 c7 c8 c9 c10 c11 c12 c13 c14 c15 cf ho1 h1 HSh a0;go_wp2_with fail;go_loopw [31] (fun u wr=>∃i:Nat,i<=n/\u=.int .i64 (i:Int)/\FmM B wr g S (YE G.w.ks (l.take i) G)/\FrT B [104,59,67,47] w1 wr) (fun u _=>n-(intOf u).toNat);case atStart=>exact⟨0,by omega,rfl,HG1.o,FrT.refl _ _ _⟩
 case round =>
  obtain⟨i,hi,rfl,hg,hf⟩:=hrel;have hn8:n<=8:=HN8.o;by_cases hin:i<n
  ·have hlt:(i:Int)<(n:Int):=by omega
   have hO:=HO1.o.keepT hf (by decide);obtain⟨gt,cpt,hv,hv1,hv2⟩:=hO.head (by rw[HEn.o];omega);simp only[Value.slice.injEq]at hv;obtain⟨rfl,hv3,hv4⟩:=hv;obtain⟨q0,q1,qf⟩:=owT hO (i:=i) (by rw[HEn.o];omega);obtain⟨A,T,eAT,hA,hT⟩:=F3 (L:=G.w.ms) (Q:=G.w.ks) (T:=E.sp) (k:=i) (by rw[HEl.o,HEn.o];exact hin);rw[HEl.o]at eAT;rw[HMl.o]at hT;simp only[eAT]at q0 q1;have hk:=Uj G.w.ks (l.take i) G;have hl:=take_len G.w.ks (l.take i) G;have HSt0:Hid (YE G.w.ks (l.take (i+1)) G=Yy G.w.ks (YE G.w.ks (l.take i) G) ((A:Int),(T:Int))):=hid (by
    unfold YE;rw[Du _ _ _ (by rw[HEn.o];exact hin),<- JT (by rw[HEn.o];exact hin),eAT])
   obtain⟨Gi,eGi⟩:∃z,YE G.w.ks (l.take i) G=z:=⟨_,rfl⟩;rw[eGi]at hg hk hl HSt0;have HKs:=hid hk.1;have HMi:=hid (hl.1.trans HMl.o);have HCi:=hid (hl.2.1.trans HCl.o);have HLi:Hid ((Gi.ns.length+1)*24<=140737488355328):=hid (Nat.le_trans (Nat.mul_le_mul_right 24 (by have h5:=hl.2.2;rw[List.length_take]at h5;omega)) HLn.o);have HF:=hid hf;have hAl:(A:Int)<(G.w.ks.length:Int):=by omega
   have hTl:(T:Int)<(N:Int):=by omega
   have A1:=sA wr (.cells #[.int .i64 (A:Int),.int .i64 (T:Int)] 126);have HA1:=hid A1;have HMt:=hid (heap_alloc_new wr (.cells #[.int .i64 (A:Int),.int .i64 (T:Int)] 126));obtain⟨va,vb,vc,vd,ve,hx⟩:=hg.sT A1;obtain⟨gm,cpm2,rfl,_,_⟩:=hx.o1.head (by rw[HMi.o];omega);obtain⟨gc,cpc,rfl,_,_⟩:=hx.o2.head (by rw[HCi.o];omega);obtain⟨gk,cpk,rfl,_,_⟩:=hx.o4.head (by rw[HKs.o];omega);rw[HMi.o,HCi.o,HKs.o]at hx;have hx4:=hx.o4;rw[HKs.o]at hx4;have HX:=hid hx;have HX4':=hid hx4;have HSt:Hid (Yy G.w.ks Gi ((A:Int),(T:Int))=⟨{ Gi.w with ms:=Gi.w.ms.set T (Xk (mm Gi.w.ms T) (pk G.w.ks A).kd),cs:=Gi.w.cs.set T (Z8 (sc Gi.w.cs T) (Z7 (mm Gi.w.ms T) (pk G.w.ks A).kd)) },Gi.ns ++ [⟨5,(T:Int),(pk G.w.ks A).kd⟩]⟩):=hid (by
    unfold Yy;simp)
   obtain⟨k0,ek0⟩:∃m,pk G.w.ks A=m:=⟨_,rfl⟩;have EK:=hid ek0;rw[ek0]at HSt;obtain⟨kd,ekd⟩:∃m,k0.kd=m:=⟨_,rfl⟩;have EKd:=hid ekd;rw[ekd]at HSt;have HTa:=hid (fun u=>HD.o.tak (mm Gi.w.ms T) kd u);have HGa:=hid (fun u=>HD.o.gai (sc Gi.w.cs T) (Z7 (mm Gi.w.ms T) kd) u);obtain⟨m0,em0⟩:∃m,mm Gi.w.ms T=m:=⟨_,rfl⟩;obtain⟨s0,es0⟩:∃m,sc Gi.w.cs T=m:=⟨_,rfl⟩;have EM:=hid em0;have ES:=hid es0;rw[em0]at HTa HGa HSt;rw[es0]at HGa HSt;obtain⟨m1,em1⟩:∃m,Xk m0 kd=m:=⟨_,rfl⟩;obtain⟨pt1,ept⟩:∃m,Z7 m0 kd=m:=⟨_,rfl⟩;obtain⟨e1,ee1⟩:∃m,Zi m0 kd=m:=⟨_,rfl⟩;rw[em1,ept,ee1]at HTa;rw[ept]at HGa;rw[em1,ept]at HSt;obtain⟨s1,es1⟩:∃m,Z8 s0 pt1=m:=⟨_,rfl⟩;obtain⟨e2,ee2⟩:∃m,Xl s0 pt1=m:=⟨_,rfl⟩;rw[es1,ee2]at HGa;rw[es1]at HSt;obtain⟨R,eR⟩:∃r,G.w.ks.length=r:=⟨_,rfl⟩;rw[eR]at hAl HX HX4';have HRl:=hid hA;have hne0:=Aft.here (wr.alloc (.cells #[.int .i64 (A:Int),.int .i64 (T:Int)] 126));have hm0:=kC (w:=wr.alloc (.cells #[.int .i64 (A:Int),.int .i64 (T:Int)] 126)) (p:=⟨wr.heap.size,0,none⟩) (v:=.int .i64 (A:Int)) (by rw[cell_of_row _ _ _ _ _ _ HMt.o];rfl);obtain⟨k0,k1,k2,k3,k4,k5,k6,k7,k8,k9,k10,k11,k12,k13,k14,k15⟩:=HX.o.k.cl;obtain⟨n0,n1,n2⟩:=Rj HX4'.o (i:=A) HRl.o EK.o;rw[EKd.o]at n2;clear hg hk hl eGi hf hO hv1 hv2 hv3 hv4 eAT A1 hx hx4 ek0 ekd em0 es0 em1 ept ee1 es1 ee2 eR hA;go_upto_region 4 with fail;refine Yk (by kernel_rfl) (by kernel_rfl) ?_;repeat(go_big_quiet_step (fail))
   refine wpQuiet_nil ?_;intro w2 h2;have HX2:=hid (HX.o.sT h2);have HS2:=hid (HA1.o.trans h2);have HMt2:=hid (h2.kept_still HMt.o);clear k0 k1 k2 k3 k4 k5 k6 k7 k8 k9 k10 k11 k12 k13 k14 k15 n0 n1 n2 hm0 hne0 h2 q0 q1 qf HX HX4' HMt HA1;go_upto_region 5 with fail;refine ZD 15 7 (.cells (mcs zM) 59 (0,0)) (.cells (mcs m1) 59 (0,0)) (by kernel_rfl) (by kernel_rfl) (by kernel_rfl) (by kernel_rfl) rfl rfl (fun u b=>XB rfl u) (fun u=>heap_alloc_new u _) ?_;apply Exists.intro;refine And.intro ?_ (And.intro ?_ ?_)
   ·intro u hu;obtain⟨k0,k1,k2,k3,k4,k5,k6,k7,k8,k9,k10,k11,k12,k13,k14,k15⟩:=(HX2.o.sT hu).k.cl;obtain⟨l0,l1,l2,l3,l4,l5,l6,l7,l8,l9,l10,l11,l12⟩:=VE (HX2.o.sT hu).o1 (i:=T) (by rw[HMi.o];exact hT) EM.o;have hb:=hu.kept_still HMt2.o;have m1':=kC (w:=u) (p:=⟨wr.heap.size,1,none⟩) (v:=.int .i64 (T:Int)) (by rw[cell_of_row _ _ _ _ _ _ hb];rfl);have hne:=Aft.here u;simp only[Y4,tkd,tkq,Nat.reduceAdd];repeat(go_big_quiet_step ((first|(go_at_call 181;with_reducible exact Calls.cl (HTa.o _)))))
    exact wpQuiet_nil rfl
   ·exact fun u h hh=>XA rfl rfl rfl hh
   intro w3 g1 h3 hg1 hm1;have p3:Mb w3 g1 m1:=hm1;have HS3:=hid (HS2.o.trans h3);have HX3:=hid (HX2.o.sT h3);have HMt3:=hid (h3.kept_still HMt2.o);clear h3 hm1 HTa HX2 HS2 HMt2;obtain⟨k0,k1,k2,k3,k4,k5,k6,k7,k8,k9,k10,k11,k12,k13,k14,k15⟩:=HX3.o.k.cl;obtain⟨l0,l1,l2,l3,l4,l5,l6,l7,l8,l9,l10,l11,l12⟩:=p3.cl;have m1':=kC (w:=w3) (p:=⟨wr.heap.size,1,none⟩) (v:=.int .i64 (T:Int)) (by rw[cell_of_row _ _ _ _ _ _ HMt3.o];rfl);have hne:=Aft.here w3;simp only[Act.put,tks];go_upto_region 6 with fail;refine Yp 9 (by kernel_rfl) (by kernel_rfl) ?_;simp only[tkd];repeat(go_big_quiet_step (fail))
   refine wpQuiet_nil ?_;intro w4 h4;have HS4:=hid (HS3.o.trans h4);have hX4:=HX3.o.sT h4;have HMt4:=hid (h4.kept_still HMt3.o);obtain⟨d0,d1,d2,d3,d4,d5,d6,d7,d8,d9,d10,d11,d12,df⟩:=owM hX4.o1 (i:=T) (by rw[HMi.o];exact hT);obtain⟨hX5,hT5⟩:=hX4.putM (i:=T) (by rw[HMi.o];exact hT) m1;obtain⟨W5,eW5⟩:∃W,(((((((((((((w4.setCell ⟨gm,T*13,none⟩ (.int .i64 m1.ax)).setCell ⟨gm,T*13+1,none⟩ (.int .i64 m1.ay)).setCell ⟨gm,T*13+2,none⟩ (.int .i64 m1.sx)).setCell ⟨gm,T*13+3,none⟩ (.int .i64 m1.sy)).setCell ⟨gm,T*13+4,none⟩ (.int .i64 m1.px)).setCell ⟨gm,T*13+5,none⟩ (.int .i64 m1.py)).setCell ⟨gm,T*13+6,none⟩ (.int .i64 m1.fc)).setCell ⟨gm,T*13+7,none⟩ (.int .i64 m1.hl)).setCell ⟨gm,T*13+8,none⟩ (.int .i64 m1.en)).setCell ⟨gm,T*13+9,none⟩ (.bool m1.sh)).setCell ⟨gm,T*13+10,none⟩ (.int .i64 m1.co)).setCell ⟨gm,T*13+11,none⟩ (.int .i64 m1.ou)).setCell ⟨gm,T*13+12,none⟩ (.int .i64 m1.sd))=W:=⟨_,rfl⟩;have HX5:Hid (Fx B W5 g S ⟨{ Gi.w with ms:=Gi.w.ms.set T m1 },Gi.ns⟩ (.slice (some ⟨gm,0,none⟩) N cpm2) (.slice (some ⟨gc,0,none⟩) N cpc) vc (.slice (some ⟨gk,0,none⟩) R cpk) ve):=hid (by rw[<- eW5];exact hX5);have HT5:Hid (FrT B [59] w4 W5):=hid (by rw[<- eW5];exact hT5);have HF5:Hid (FrT B [104,59,67,47] w1 W5):=hid ((HF.o.then HS4.o).trans (HT5.o.mono (by simp)));have HMt5:=hid (HT5.o.kept HMt4.o (by decide));clear h4 hne k0 k1 k2 k3 k4 k5 k6 k7 k8 k9 k10 k11 k12 k13 k14 k15 l0 l1 l2 l3 l4 l5 l6 l7 l8 l9 l10 l11 l12 m1' hX4 hX5 hT5 HX3 HS3 HS4 p3 HF HT5 HMt3 HMt4;go_upto_region 7 with fail;refine Js 21 (by kernel_rfl) (by kernel_rfl) (by kernel_rfl) ?_;clear d0 d1 d2 d3 d4 d5 d6 d7 d8 d9 d10 d11 d12 df eW5;apply Exists.intro;refine And.intro ?_ ?_
   ·intro u hu;obtain⟨k0,k1,k2,k3,k4,k5,k6,k7,k8,k9,k10,k11,k12,k13,k14,k15⟩:=(HX5.o.sT hu).k.cl;obtain⟨l0,l1,l2,l3⟩:=Dn (HX5.o.sT hu).o2 (i:=T) (by rw[HCi.o];exact hT) ES.o;have hb:=hu.kept_still HMt5.o;have m1':=kC (w:=u) (p:=⟨wr.heap.size,1,none⟩) (v:=.int .i64 (T:Int)) (by rw[cell_of_row _ _ _ _ _ _ hb];rfl);have hne:=Aft.here u;simp only[List.take_succ_cons,List.take_zero];repeat(go_big_quiet_step ((first|(go_at_call 182;with_reducible exact Calls.cl (HGa.o _)))))
    exact wpQuiet_nil rfl
   intro w6 h6;simp only[List.drop_succ_cons,List.drop_zero];have hX6:=HX5.o.sT h6;have HS6:=hid h6;have HMt6:=hid (h6.kept_still HMt5.o);obtain⟨d0,d1,d2,d3,df⟩:=owC hX6.o2 (i:=T) (by rw[HCi.o];exact hT);obtain⟨hX7,hT7⟩:=hX6.putC (i:=T) (by rw[HCi.o];exact hT) s1;obtain⟨W7,eW7⟩:∃W,((((w6.setCell ⟨gc,T*4,none⟩ (.int .i64 s1.p)).setCell ⟨gc,T*4+1,none⟩ (.int .i64 s1.h)).setCell ⟨gc,T*4+2,none⟩ (.int .i64 s1.o)).setCell ⟨gc,T*4+3,none⟩ (.int .i64 s1.k))=W:=⟨_,rfl⟩;have HX7:Hid (Fx B W7 g S ⟨{ Gi.w with ms:=Gi.w.ms.set T m1,cs:=Gi.w.cs.set T s1 },Gi.ns⟩ (.slice (some ⟨gm,0,none⟩) N cpm2) (.slice (some ⟨gc,0,none⟩) N cpc) vc (.slice (some ⟨gk,0,none⟩) R cpk) ve):=hid (by rw[<- eW7];exact hX7);have HT7:Hid (FrT B [67] w6 W7):=hid (by rw[<- eW7];exact hT7);have HF7:Hid (FrT B [104,59,67,47] w1 W7):=hid ((HF5.o.then HS6.o).trans (HT7.o.mono (by simp)));have hb7:=HT7.o.kept HMt6.o (by decide);have p1:W7.cell? ⟨wr.heap.size,1,none⟩=some (.int .i64 (T:Int)):=by rw[cell_of_row _ _ _ _ _ _ hb7];rfl
   have HNt:=hid (Uh B g S _ 5 (T:Int) kd W7 (by have:=HS1.o.size;have:=HF7.o.size;omega) ⟨_,_,_,_,_,HX7.o⟩ HLi.o);clear h6 hX6 hX7 hT7 HX5 HS6 HMt5 HMt6 HF5 HGa HX7 HT7 hb7;go_wp2_with fail;refine⟨rfl,?_⟩;clear d0 d1 d2 d3 df eW7;go_wp2_with fail;refine HNt.o.mono ?_;rintro e w8 ⟨⟨v8,rfl⟩,hg8,hf8⟩;have HG8:=hid hg8;have HF8:=hid (HF7.o.trans (hf8.mono (by simp)));clear hg8 hf8 HNt HF7 p1;go_wp2_with fail;go_roundw;case rel=>exact⟨i+1,by omega,by go_num,by rw[HSt0.o,HSt.o];exact HG8.o,HF8.o⟩
   case measure=>first|(simp[intOf];done)|(simp[intOf];omega)
  ·have hge:¬(i:Int)<(n:Int):=by omega
   obtain rfl:i=n:=by omega
   have hk:=Uj G.w.ks (l.take i) G;have HKs:=hid hk.1;have HTk:Hid (l.take i=l):=hid (List.take_of_length_le (by rw[HEn.o];omega));have hO:=HO1.o.keepT hf (by decide);have HM:=hid (Zn hO (by rw[HEn.o];omega));have HF:=hid hf;obtain⟨va,vb,vc,vd,ve,hx⟩:=hg;obtain⟨so2,scp2,rfl,_⟩:=hx.o4.slice;have hx3:=hx.o4;rw[HKs.o]at hx hx3;have HR3:=hid (Zn hx3 (by have:=HS8.o;omega));have HX:=hid hx;obtain⟨c0,c1,c2,c3,c4,c5,c6,c7,c8,c9,c10,c11,c12,c13,c14,c15,cf⟩:=hx.k.cells;clear hf hk hO hx hx3 hin;have HU:=hid (SL G.w.ks l so2 G.w.ks.length scp2 mo i mcp wr HR3.o (by have:=HM.o;rw[HEn.o]at this;exact this) (by have:=HS8.o;omega));go_wp2_with fail;refine HU.o.mono ?_;rintro e w2 ⟨v2,rfl,ho2,h2⟩;obtain⟨fo,fcp,rfl,_⟩:=ho2.slice;have HX2:=hid (HX.o.sT h2);have HO2:=hid (ho2.less (B':=B) (by have:=HS1.o.size;have:=HF.o.size;omega));have HS2:=hid h2;clear c0 c1 c2 c3 c4 c5 c6 c7 c8 c9 c10 c11 c12 c13 c14 c15 cf;obtain⟨c0,c1,c2,c3,c4,c5,c6,c7,c8,c9,c10,c11,c12,c13,c14,c15,cf⟩:=HX2.o.k.cells;clear ho2 h2 HX HU HR3;go_wp2_with fail;go_end0;refine⟨⟨_,rfl⟩,?_,?_⟩
   ·have h1:=HX2.o.setD _ _ HO2.o;have e:Xo E G=⟨{ (YE G.w.ks (l.take i) G).w with ks:=Yu G.w.ks l },(YE G.w.ks (l.take i) G).ns⟩:=by
     unfold Xo;rw[HEl.o,HTk.o]
    rw[e];exact⟨_,_,_,_,_,h1⟩
   ·exact((FrT.of_still HS1.o).trans HF.o).trans ((FrT.of_still HS2.o).trans ((HX2.o.frT _ _).mono (by simp)))
theorem SW{o:Oper}{ρ:Operand->Value}{x:Operand}{s:Pk}(ho:o.op=.buildSlice 31 1 #[(0,x)])(hx:ρ x=kv s)(u:World):(execOp ρ o).run Tryz.prog u=.ok (.value (.slice (some ⟨u.heap.size,0,none⟩) 1 1)) (u.alloc (.cells (kcs s) 71)):=by
 unfold execOp;rw[ho];simp only[List.map_toArray,List.map_cons,List.map_nil,hx];go_simp;try rfl
theorem SZ(x:World)(S:Se)(E:Env)(D:P13 x S.F E)(B B0 g:Nat)(G:Gm)(w:World)(hw:Yc x w)(hB:B<=w.heap.size)(h:FmM B w g S G)(hsp:OwG KT 57 w B0 S.sp E.sp)(hfr:0<=G.w.fr/\G.w.fr<=1099511627776)(hnx:0<=G.w.nx)(h8:G.w.ks.length<=8)(h47:(G.ns.length+1)*24<=140737488355328) :
  Calls Tryz.prog 112 #[.pointer (some ⟨g,0,none⟩)] w fun e w'=>(∃v,e=.returned v)/\FmM B w' g S (XQ E (G.w.fr+1) G)/\FrT B [104,71,47] w w':=by
 have HD:=hid D;have H:=hid h;have HLn:=hid h47;have HW:=hid hw;obtain⟨va,vb,vc,vd,ve,hx⟩:=h;obtain⟨so,scp,rfl,hso⟩:=hx.o4.slice;obtain⟨po,pcp,ep,_⟩:=hsp.slice;have HEp:=hid ep;have hr4:=UU (Zn hx.o4 (by omega));have hcap:=(Kj hx.o4).2;have HX:=hid hx;have HSo:=hid hso;have hgl:=hx.k.lt;obtain⟨c0,c1,c2,c3,c4,c5,c6,c7,c8,c9,c10,c11,c12,c13,c14,c15,cf⟩:=hx.k.cells;have HSp:=hid (fun u (hu:Yc w u)=>HD.o.spw (G.w.fr+1) (E.sp.length:Int) G.w.nx G.w.ks so G.w.ks.length scp u (HW.o.trans hu) (hr4.sT hu) hcap);have HF:Hid (XQ E (G.w.fr+1) G=if G.w.nx<=1099511627776/\comes G.w.ks (G.w.fr+1) (E.sp.length:Int) G.w.nx=true then⟨{ G.w with ks:=G.w.ks ++ [Yr E.q (G.w.fr+1) G.w.ks (E.sp.length:Int) G.w.nx],nx:=G.w.nx+1 },G.ns ++ [⟨6,(Yr E.q (G.w.fr+1) G.w.ks (E.sp.length:Int) G.w.nx).sp,(Yr E.q (G.w.fr+1) G.w.ks (E.sp.length:Int) G.w.nx).kd⟩]⟩else G):=hid rfl;obtain⟨nx,enx⟩:∃n,G.w.nx=n:=⟨_,rfl⟩;obtain⟨fr,efr⟩:∃n,G.w.fr=n:=⟨_,rfl⟩;obtain⟨R,er⟩:∃n,G.w.ks.length=n:=⟨_,rfl⟩;obtain⟨P,eP⟩:∃n,E.sp.length=n:=⟨_,rfl⟩;have HR:=hid er;have HNx:=hid enx;have HFr:=hid efr;have HP:=hid eP;rw[enx]at HF HSp c13 hnx;rw[efr]at HF HSp c8 hfr;rw[efr];rw[er]at HSp c12 h8;rw[eP]at HF HSp;clear hx h47 D hw enx er efr eP hso hr4 hcap ep hsp;by_cases h2:nx > 1099511627776
 ·rw[if_neg (by omega)]at HF;have h2':(1099511627776:Int)<nx:=h2;go_enter Tryz.func112,Tryz.ntmps112;go_wp2_with fail;refine bodyPost_ret (results_none rfl _ _ _) rfl ?_;exact⟨⟨_,rfl⟩,by rw[HF.o];exact H.o,FrT.refl _ _ _⟩
 have h2':¬(1099511627776:Int)<nx:=h2;have hwf:IntKind.i64.wrap (fr+1)=fr+1:=by rw[IntKind.wrap_i64];omega
 obtain⟨s1,es⟩:∃s,Yr E.q (fr+1) G.w.ks (P:Int) nx=s:=⟨_,rfl⟩;obtain⟨is,ei⟩:∃s,comes G.w.ks (fr+1) (P:Int) nx=s:=⟨_,rfl⟩;obtain⟨e1,ee⟩:∃s,Zo G.w.ks (fr+1) (P:Int) nx=s:=⟨_,rfl⟩;rw[es,ei]at HF;rw[es,ei,ee]at HSp;clear es ei ee;go_enter Tryz.func112,Tryz.ntmps112;go_upto_region 1 with fail;refine ZD 33 2 (.cells (kcs zK) 71 (0,0)) (.cells (kcs s1) 71 (0,0)) (by kernel_rfl) (by kernel_rfl) (by kernel_rfl) (by kernel_rfl) rfl rfl (fun u b=>NM rfl u) (fun u=>heap_alloc_new u _) ?_;apply Exists.intro;refine And.intro ?_ (And.intro ?_ ?_)
 ·intro u hu;obtain⟨k0,k1,k2,k3,k4,k5,k6,k7,k8,k9,k10,k11,k12,k13,k14,k15⟩:=(HX.o.sT hu).k.cl;have HF2:=hid (fun z:Aft u=>HSp.o z.u (hu.trans z.s));rw[HEp.o,HP.o]at k7;rw[HNx.o]at k13;rw[HFr.o]at k8;rw[HR.o]at k12;have hne:=Aft.here u;simp only[Y4,tkd,tkq,Nat.reduceAdd];repeat(go_big_quiet_step ((first|(go_at_call 184;with_reducible exact Calls.cl (HF2.o _)))))
  exact wpQuiet_nil rfl
 ·exact fun u h hh=>NK rfl rfl rfl hh
 intro w2 g1 h2 hg1 hm1;have p2:Kb w2 g1 s1:=hm1;have HP2:=hid p2;have HS2:=hid h2;have HX2:=hid (HX.o.sT h2);clear c0 c1 c2 c3 c4 c5 c6 c7 c8 c9 c10 c11 c12 c13 c14 c15 cf h2 hm1 HSp HX p2;simp only[Act.put,tks];cases is with
 | false =>
  rw[if_neg (by simp)]at HF;go_wp2_with fail;refine bodyPost_ret (results_none rfl _ _ _) rfl ?_;exact⟨⟨_,rfl⟩,by rw[HF.o];exact H.o.sT HS2.o,FrT.of_still HS2.o⟩
 | true =>
  rw[if_pos ⟨by omega,rfl⟩]at HF;go_upto_region 3 with fail;refine Kz 7 1 (by kernel_rfl) (by kernel_rfl) (by kernel_rfl) ?_;apply Exists.intro;refine And.intro ?_ (And.intro ?_ ?_)
  ·intro u hu;obtain⟨k0,k1,k2,k3,k4,k5,k6,k7,k8,k9,k10,k11,k12,k13,k14,k15⟩:=(HX2.o.sT hu).k.cl;obtain⟨n0,n1,n2⟩:=(HP2.o.sT hu).cl;have hne:=Aft.here u;simp only[List.take_succ_cons,List.take_zero];repeat(go_big_quiet_step (fail))
   exact wpQuiet_nil rfl
  ·intro _ o ho u hu;obtain rfl:=Option.some.inj ho;exact⟨_,_,SW rfl rfl u,sA u _⟩
  intro w3 h3;simp only[List.drop_succ_cons,List.drop_zero];have A4:=sA w3 (.cells (kcs s1) 71);have hX4:=(HX2.o.sT h3).sT A4;have HX4:=hid hX4;have HO4:=hid hX4.o4;have HY4:Hid ((w3.alloc (.cells (kcs s1) 71)).heap[w3.heap.size]?=some (.cells (kcs s1) 71 (0,0))):=hid (heap_alloc_new w3 _);have HS4:=hid ((HS2.o.trans h3).trans A4);have HP4:=hid ((HP2.o.sT h3).sT A4);have HB4:Hid (B<=(w3.alloc (.cells (kcs s1) 71)).heap.size):=hid (by have:=HS4.o.size;omega);have HL4:Hid ((G.w.ks.length+1)*24<=140737488355328):=hid (by have:=HR.o;omega);clear h3 hX4 A4 HX2 HS2 HP2;go_wp2_with (
   at_builtin;refine ZA KQ _ rfl _ _ 31 rfl Tryz.underlying31 24 Ji B w3.heap.size _ G.w.ks s1 rfl rfl HO4.o HY4.o HL4.o (by have:=HL4.o;omega) HB4.o ?_;intro v' w' ho' hf';have hT:=HO4.o.frT (ts:=[71]) hf' (Nat.le_refl B) (by simp);have HT:=hid hT;have HO:Hid (OwG KQ 71 w' B v' (G.w.ks ++ [s1])):=hid ho';have HFo:Hid (Fr (fun k=>(Value.slice so G.w.ks.length scp).ownBlock=some k) (w3.alloc (.cells (kcs s1) 71)) w'):=hid hf';have k1:=HX4.o.k.keepT hT (by decide);have HK:=hid k1;obtain⟨d0,d1,d2,d3,d4,d5,d6,d7,d8,d9,d10,d11,d12,d13,d14,d15,df⟩:=k1.cells;obtain⟨g',cap',rfl,_,_⟩:=ho'.head (by simp);clear hT k1 ho' hf')
  refine⟨rfl,?_⟩;have hg1g:g1≠g:=by omega
  have HX5:Hid (Fx B (w'.setCell ⟨g,12,none⟩ (.slice (some ⟨g',0,none⟩) (G.w.ks.length+1) cap')) g S ⟨{ G.w with ks:=G.w.ks ++ [s1] },G.ns⟩ va vb vc (.slice (some ⟨g',0,none⟩) (G.w.ks.length+1) cap') ve):=hid (by
   have ho:=HO.o;rw[show(G.w.ks ++ [s1]).length=G.w.ks.length+1 by simp]at ho;refine⟨HX4.o.hb,HK.o.setD _,?_,?_,?_,ho.setO HK.o.ty (by decide) _,?_⟩
   ·exact(HX4.o.o1.keepT HT.o (by decide)).setO HK.o.ty (by decide) _
   ·exact(HX4.o.o2.keepT HT.o (by decide)).setO HK.o.ty (by decide) _
   ·exact(HX4.o.o3.keepT HT.o (by decide)).setO HK.o.ty (by decide) _
   ·exact(HX4.o.o5.keepT HT.o (by decide)).setO HK.o.ty (by decide) _)
  have HF5:Hid (FrT B [104,71] w (w'.setCell ⟨g,12,none⟩ (.slice (some ⟨g',0,none⟩) (G.w.ks.length+1) cap'))):=hid (((FrT.of_still HS4.o).trans (HT.o.mono (by simp))).set HK.o.ty (by simp) HX4.o.hb _);have HP5:Hid (Kb (w'.setCell ⟨g,12,none⟩ (.slice (some ⟨g',0,none⟩) (G.w.ks.length+1) cap')) g1 s1):=hid (by
   have h1:Kb w' g1 s1:=HFo.o.kept HP4.o (fun e=>by
    rcases HSo.o with rfl|⟨g2,rfl,_,h2⟩
    ·cases e
    ·have:g2=g1:=by simpa[Value.ownBlock]using e
     omega)
   exact(heap_setCell_other _ _ _ _ hg1g).trans h1)
  obtain⟨W5,eW5⟩:∃W,(w'.setCell ⟨g,12,none⟩ (.slice (some ⟨g',0,none⟩) (G.w.ks.length+1) cap'))=W:=⟨_,rfl⟩;rw[eW5]at HX5 HF5 HP5⊢;clear eW5 HO HFo HT HK HX4 HO4 HY4 HS4 HP4 HB4 HL4 d0 d1 d2 d3 d4 d5 d6 d7 d8 d9 d10 d11 d12 d13 d14 d15 df;obtain⟨c0,c1,c2,c3,c4,c5,c6,c7,c8,c9,c10,c11,c12,c13,c14,c15,cf⟩:=HX5.o.k.cells;rw[show(⟨{ G.w with ks:=G.w.ks ++ [s1] },G.ns⟩:Gm).w.nx=nx from HNx.o]at c13;have hwr:IntKind.i64.wrap (nx+1)=nx+1:=by rw[IntKind.wrap_i64];omega
  have HX6:=hid (HX5.o.setX (nx+1));have HF6:=hid (HF5.o.trans ((HX5.o.frT 13 (.int .i64 (nx+1))).mono (by simp)));have HP6:Hid (Kb (W5.setCell ⟨g,13,none⟩ (.int .i64 (nx+1))) g1 s1):=hid ((heap_setCell_other _ _ _ _ hg1g).trans HP5.o);have HNt:=hid (Uh B g S _ 6 s1.sp s1.kd _ (by have:=HF6.o.size;omega) ⟨_,_,_,_,_,HX6.o⟩ HLn.o);obtain⟨W6,eW6⟩:∃W,(W5.setCell ⟨g,13,none⟩ (.int .i64 (nx+1)))=W:=⟨_,rfl⟩;rw[eW6]at HX6 HF6 HP6 HNt;obtain⟨b0,b1,b2,bf⟩:=HP6.o.cells;clear HX5 HF5 HP5 HX6;go_wp2_with fail;refine HNt.o.mono ?_;rintro e w8 ⟨⟨v8,rfl⟩,hg8,hf8⟩;have HF8:Hid (FrT B [104,71,47] w w8):=hid ((HF6.o.mono (by simp)).trans (hf8.mono (by simp)));have HG8:=hid hg8;clear hf8 hg8 HNt HF6 HP6 b0 b1 b2 bf c0 c1 c2 c3 c4 c5 c6 c7 c8 c9 c10 c11 c12 c13 c14 c15 cf;go_wp2_with fail;go_end0;refine⟨⟨_,rfl⟩,?_,HF8.o⟩;rw[HF.o];have hg:=HG8.o;simpa[HNx.o]using hg
def DD(E:Env)(l:List Cm):Nat->Gm->Gm
 | 0,G=>YJ l G
 | 1,G=>Zd E G
 | 2,G=>YT (bod G.w.ms) G
 | 3,G=>Vk E G
 | 4,G=>Vl G
 | 5,G=>Xo E G
 | 6,G=>XQ E (G.w.fr+1) G
 | _,G=>XM E G
def phG(E:Env)(l:List Cm)(G:Gm):Nat->Gm
 | 0=>G
 | i+1=>DD E l i (phG E l G i)
theorem F4{n:Nat}{E:Env}{g:Gm}(h:Ha.Good n E g.w):Ha.Good n E (Vk E g).w:=by
 obtain⟨hS,r1,r2,r3,r4,r5,r6⟩:=h;obtain⟨f1,f2⟩:=EW (E:=E) r1;refine⟨hS,f1,fun s hs=>?_,r3,r4,r5,r6⟩;obtain⟨t,ht,e1,e2⟩:=f2 s hs;have:=r2 t ht;exact⟨by rw[e2];exact this.1,by rw[e1];exact this.2⟩
theorem Pa(l:List (Int × Int)):∀g:Gm,(YT l g).w.fr=g.w.fr:=by
 induction l with
 | nil=>intro g;rfl
 | cons t l ih=>intro g;exact ih (ZS g t)
theorem F5(E:Env)(g:Gm):(Xo E g).w.fr=g.w.fr:=(Uj g.w.ks (pic g.w.ms g.w.ks E.sp) g).2.2.1
theorem Pc(E:Env)(l:List Cm):∀i (g:Gm),(DD E l i g).w.fr=g.w.fr:=by
 intro i g;unfold DD;split
 ·exact Nh l g
 ·rfl
 ·exact Pa _ g
 ·rfl
 ·exact(Qs _ _ g).1
 ·exact F5 E g
 ·unfold XQ;split<;>rfl
 ·rfl
theorem Kl(E:Env)(l:List Cm)(G:Gm):∀i,(phG E l G i).w.fr=G.w.fr
 | 0=>rfl
 | i+1=>(Pc E l i _).trans (Kl E l G i)
theorem DE(E:Env)(l:List Cm)(G:Gm):phG E l G 1=YJ l G:=rfl
theorem DF(E:Env)(l:List Cm)(G:Gm):phG E l G 2=Zd E (phG E l G 1):=rfl
theorem DG(E:Env)(l:List Cm)(G:Gm):phG E l G 3=YT (bod (phG E l G 2).w.ms) (phG E l G 2):=rfl
theorem DH(E:Env)(l:List Cm)(G:Gm):phG E l G 4=Vk E (phG E l G 3):=rfl
theorem DI(E:Env)(l:List Cm)(G:Gm):phG E l G 5=Vl (phG E l G 4):=rfl
theorem DJ(E:Env)(l:List Cm)(G:Gm):phG E l G 6=Xo E (phG E l G 5):=rfl
theorem DK(E:Env)(l:List Cm)(G:Gm):phG E l G 7=XQ E ((phG E l G 6).w.fr+1) (phG E l G 6):=rfl
theorem DL(E:Env)(l:List Cm)(G:Gm):phG E l G 8=XM E (phG E l G 7):=rfl
theorem F6{n:Nat}{E:Env}{g:Gm}(h:Ha.Good n E g.w):Ha.Good n E (YT (bod g.w.ms) g).w:=Db _ _ h (fun t ht=>by
 have h1:=EV t ht;have h2:=h.1.1;rw[h2]at h1;exact h1)
theorem Pd(E:Env)(g:Gm):(Xo E g).w.ms.length=g.w.ms.length/\(Xo E g).w.cs.length=g.w.cs.length/\(Xo E g).ns.length<=g.ns.length+8:=by
 have h:=take_len g.w.ks (pic g.w.ms g.w.ks E.sp) g;have hb:=KZ (L:=g.w.ms) (Q:=g.w.ks) (T:=E.sp);refine⟨h.1,h.2.1,?_⟩;have h3:(Xo E g).ns.length=_:=h.2.2;omega
theorem F7(g:Gm):(YT (bod g.w.ms) g).ns.length<=g.ns.length+36:=by
 have h:=(Dt (bod g.w.ms) g).2;have hb:=GW (L:=g.w.ms);omega
theorem Pe(g:Gm):(Vl g).ns.length<=g.ns.length+96:=by
 have h:=(Jk g.w.hs (sho g.w.ms g.w.hs) g).2.2;have hb:=Ja.sho_len (L:=g.w.ms) (S:=g.w.hs);have h3:(Vl g).ns.length<=_:=h;omega
theorem Pf(E:Env)(f:Int)(g:Gm):(XQ E f g).ns.length<=g.ns.length+1:=by
 unfold XQ;split
 ·simp
 ·omega
structure PhF (N:Nat) (E:Env) (l:List Cm) (G:Gm):Prop where
 g2:Ha.Good N E (phG E l G 2).w
 g3:Ha.Good N E (phG E l G 3).w
 g4:Ha.Good N E (phG E l G 4).w
 g5:Ha.Good N E (phG E l G 5).w
 g7:Ha.Good N E (phG E l G 7).w
 g8:Ha.Good N E (phG E l G 8).w
 m1:(phG E l G 1).w.ms.length=N
 k6:(phG E l G 6).w.ks.length<=8
 x6:0<=(phG E l G 6).w.nx
 n2:(phG E l G 2).ns.length<=G.ns.length+l.length
 n4:(phG E l G 4).ns.length<=G.ns.length+l.length+36
 n5:(phG E l G 5).ns.length<=G.ns.length+l.length+132
 n6:(phG E l G 6).ns.length<=G.ns.length+l.length+140
 n7:(phG E l G 7).ns.length<=G.ns.length+l.length+141
theorem Pg{N:Nat}{E:Env}{l:List Cm}{G:Gm}(hN:N<=6)(hl:∀y∈l,Rgt N y)(hG:Ha.Good N E G.w):PhF N E l G:=by
 have e1:=DE E l G;have e2:=DF E l G;have e3:=DG E l G;have e4:=DH E l G;have e5:=DI E l G;have e6:=DJ E l G;have e7:=DK E l G;have e8:=DL E l G;have f5:=Kl E l G 5;generalize hp1:phG E l G 1=p1 at e1 e2;generalize hp2:phG E l G 2=p2 at e2 e3;generalize hp3:phG E l G 3=p3 at e3 e4;generalize hp4:phG E l G 4=p4 at e4 e5;generalize hp5:phG E l G 5=p5 at e5 e6 f5;generalize hp6:phG E l G 6=p6 at e6 e7;generalize hp7:phG E l G 7=p7 at e7 e8;generalize hp8:phG E l G 8=p8 at e8;have q1:Ha.Good N E p1.w:=by rw[e1];exact JM hN l G hG hl
 have q2:Ha.Good N E p2.w:=by rw[e2];exact Da q1
 have q3:Ha.Good N E p3.w:=by rw[e3];exact F6 q2
 have q4:Ha.Good N E p4.w:=by rw[e4];exact F4 q3
 have q5:Ha.Good N E p5.w:=by rw[e5,e4,<- ND];exact Dc q3
 have q7:Ha.Good N E p7.w:=by
  rw[e7,e6,F5,<- NE];exact Dd q5
 have q8:Ha.Good N E p8.w:=by rw[e8];exact Ng q7
 have a1:p1.ns.length<=G.ns.length+l.length:=by rw[e1];exact DB l G
 have a2:p2.ns.length<=G.ns.length+l.length:=by rw[e2];exact a1
 have a3:p3.ns.length<=G.ns.length+l.length+36:=by have:=F7 p2;rw[<- e3]at this;omega
 have a4:p4.ns.length<=G.ns.length+l.length+36:=by rw[e4];exact a3
 have a5:p5.ns.length<=G.ns.length+l.length+132:=by have:=Pe p4;rw[<- e5]at this;omega
 have a6:p6.ns.length<=G.ns.length+l.length+140:=by have:=(Pd E p5).2.2;rw[<- e6]at this;omega
 have a7:p7.ns.length<=G.ns.length+l.length+141:=by have:=Pf E (p6.w.fr+1) p6;rw[<- e7]at this;omega
 have hk:=Uj p5.w.ks (pic p5.w.ms p5.w.ks E.sp) p5;refine⟨by rw[hp2];exact q2,by rw[hp3];exact q3,by rw[hp4];exact q4,by rw[hp5];exact q5,by rw[hp7];exact q7,by rw[hp8];exact q8,by rw[hp1];exact q1.1.1,?_,?_,by rw[hp2];exact a2,by rw[hp4];exact a4,by rw[hp5];exact a5,by rw[hp6];exact a6,by rw[hp7];exact a7⟩
 ·rw[hp6,e6];exact Nat.le_trans (JS p5.w.ks (pic p5.w.ms p5.w.ks E.sp)) (mayK_pw.1 q5.2.2.2.1).2.1
 ·rw[hp6,e6];show 0<=(YE p5.w.ks (pic p5.w.ms p5.w.ks E.sp) p5).w.nx;rw[hk.2.1];have:=q5.2.2.2.2.2.1;omega
theorem Ph(E:Env)(W:Wd)(l:List Cm):frame E W l=⟨{ (phG E l ⟨W,[]⟩ 8).w with fr:=W.fr+1 },(phG E l ⟨W,[]⟩ 8).ns⟩:=by
 rw[Ro];dsimp only;rw[DL,DK,Kl,DJ,DI,DH,DG,DF,DE]
theorem few{a b N:Nat}(h:a<=b)(hb:b*24<=N):a*24<=N:=Nat.le_trans (Nat.mul_le_mul_right 24 h) hb
theorem Pi(S:Se)(E:Env)(x:World)(D:P13 x S.F E)(B B0 g:Nat)(W:Wd)(N:Nat)(l:List Cm)(xo:Option Addr)(n xcp:Nat)(hxs:S.xs=.slice xo n xcp)(hr:RdG KX x xo n l)(hxB:x.heap.size<=B)(hst:OwG KT 57 x B0 S.st E.st)(hsp:OwG KT 57 x B0 S.sp E.sp)(hN:N<=6)(hNs:N<=E.st.length)(hs16:E.sp.length<=16)(hG:Ha.Good N E W)(hfr:0<=W.fr/\W.fr<=1099511627776)(hl:∀y∈l,Rgt N y)(h47:(n+300)*24<=140737488355328)
  (w:World) (hw:Yc x w) (hB:B<=w.heap.size) (i:Nat) (hi:i<8) (h:FmM B w g S (phG E l ⟨W,[]⟩ i)) :
  Calls Tryz.prog ([106,107,108,109,110,111,112,113].getD i 0) #[.pointer (some ⟨g,0,none⟩)] w fun e w'=>(∃v,e=.returned v)/\FmM B w' g S (phG E l ⟨W,[]⟩ (i+1))/\FrT B [104,59,67,69,71,47] w w':=by
 have hln:l.length=n:=hr.1;have hF:PhF N E l ⟨W,[]⟩:=Pg hN hl hG;have hf6:=Kl E l ⟨W,[]⟩ 6;have mono:∀{f:FuncId} {G':Gm} {ts:List TypeId},(∀t∈ts,t∈[104,59,67,69,71,47])->(Calls Tryz.prog f #[.pointer (some ⟨g,0,none⟩)] w fun e w'=>(∃v,e=.returned v)/\FmM B w' g S G'/\FrT B ts w w')->Calls Tryz.prog f #[.pointer (some ⟨g,0,none⟩)] w fun e w'=>(∃v,e=.returned v)/\FmM B w' g S G'/\FrT B [104,59,67,69,71,47] w w':=fun hts hc=>hc.mono fun e w' ⟨a,b,c⟩=>⟨a,b,c.mono hts⟩;obtain rfl|rfl|rfl|rfl|rfl|rfl|rfl|rfl:i=0\/i=1\/i=2\/i=3\/i=4\/i=5\/i=6\/i=7:=by omega
 ·rw[DE];exact mono (by simp) (SQ x S E D B g ⟨W,[]⟩ N l xo n xcp hxs hr w hw hxB hB h hN hG hl (few (by simp only[List.length_nil];omega) h47))
 ·rw[DF];exact mono (by simp) (Ru x S E D B g _ w h (by rw[hF.m1];exact hN))
 ·rw[DG];exact mono (by simp) (ST x S E D B g _ N w hB h hF.g2.1.1 hN (few (by have h5:=hF.n2;rw[hln]at h5;simp only[List.length_nil,Nat.zero_add]at h5;omega) h47))
 ·rw[DH];exact mono (by simp) (SU x S E D B g _ w hB h (flo_pw.1 hF.g3.2.1).1)
 ·rw[DI];exact mono (by simp) (SN x S E D B g _ N w hB h hF.g4.1.1 hF.g4.1.2.2.1 hN (flo_pw.1 hF.g4.2.1).1 (fun i hi=>by
   have h1:=hF.g4.2.2.1 _ (List.getElem_mem hi);have h2:=(flo_pw.1 hF.g4.2.1).2.1 _ (List.getElem_mem hi);rw[ZZ hi];exact⟨((phG E l ⟨W,[]⟩ 4).w.hs[i]).ow.toNat,by have:=h2.2.1;omega,by have:=h2.2.1;omega⟩) (few (by have h5:=hF.n4;rw[hln]at h5;simp only[List.length_nil,Nat.zero_add]at h5;omega) h47))
 ·rw[DJ];exact mono (by simp) (SV x S E D B B0 g _ N w hB h hF.g5.1.1 hF.g5.1.2.2.1 hN (mayK_pw.1 hF.g5.2.2.2.1).2.1 (hsp.sT hw) hs16 (few (by have h5:=hF.n5;rw[hln]at h5;simp only[List.length_nil,Nat.zero_add]at h5;omega) h47))
 ·rw[DK];exact mono (by simp) (SZ x S E D B B0 g _ w hw hB h (hsp.sT hw) (by rw[hf6];exact hfr) hF.x6 hF.k6 (few (by have h5:=hF.n6;rw[hln]at h5;simp only[List.length_nil,Nat.zero_add]at h5;omega) h47))
 ·rw[DL];exact mono (by simp) (Rv x S E D B B0 g _ w hB h (by rw[hF.g7.1.1];exact hN) (hst.sT hw) (by rw[hF.g7.1.1];exact hNs) (few (by have h5:=hF.n7;rw[hln]at h5;simp only[List.length_nil,Nat.zero_add]at h5;omega) h47))
end
section
open Go.RowKit
open Pu Gp Ap Vp Np Za Ka Ja Ea Ha
section
variable {α:Type} {e:TypeId}
theorem Km{P:Program}(K:Kd α)(w:World){ops:Array Oper}{rest:List Oper}{o:Oper}{a:Act}{Q:Exit->Act->World->Prop}(hgd:o.guard=none)(s x:Operand)(t:TypeId)
  (hop:o.op=.call { callee:=.builtin .append,args:=#[s,x],argTypes:=#[t,t] })
  (hu:P.underlying t=some (.slice e)) (bytes:Nat) (hinfo:∃i,P.info? e=some i/\i.zero=some (.agg (K.f K.d).toArray)/\i.size=K.k/\i.bytes=bytes)
  (so:Option Addr) (n c:Nat) (L:List α) (hs:a.eval s=.slice none 0 0) (hx:a.eval x=.slice so n c) (hr:RdG K w so n L) (h47:n*bytes<=140737488355328)
  (h:∀v' w',OwG K e w' w.heap.size v' L->Yc w w'->wpList P ops Q rest (a.put o.dst v') w'):wpList P ops Q (o :: rest) a w:=by
 obtain⟨i,hi,hz,h1,h2⟩:=hinfo;have hl:=hr.1;have hm:=hr.2.1;by_cases h0:0<n
 ·obtain⟨D,off,rfl⟩:=hr.at h0;have hown:w.ownsRow w.heap.size e K.k (.slice none 0 0) 0 ([]:List Value):=OwG.nil (K:=K) (e:=e) w w.heap.size;refine wpList_append_lies (P:=P) (w:=w) hgd s x t hop w.heap.size e i (.agg (K.f K.d).toArray) K.k bytes hu hi hz h1 h2 (by simp[Value.cells,K.len]) K.pos _ 0 [] hs hown ⟨D,off,none⟩ n c (K.row L) hx (by rw[K.row_len,hl]) (hr.cellsAt) (K.row_one L) h0 (by unfold maxLen;omega) (by rw[Nat.zero_add];exact h47) (Nat.le_refl _) w.heap.size rfl ?_;intro g' cap w' hown' hgr _ _;refine h _ w' ?_ ⟨hgr.os,hgr.tape,hgr.output,hgr.size,fun k hk _=>hgr.block k hk (by simp[Value.ownBlock])⟩;unfold OwG;rw[List.nil_append,Nat.zero_add]at hown';rw[hl,Nat.zero_add];exact hown'
 ·obtain rfl:n=0:=by omega
  have hL:L=[]:=List.eq_nil_of_length_eq_zero hl;subst hL;refine wpList_plain hgd fun Kk hK=>?_;have hrun:(Builtin.append_ #[t,t] o.type #[.slice none 0 0,.slice so 0 c]).run P w=.ok (.slice none 0 0) w:=by
   cases so<;>simp[Builtin.append_,run_underlying hu,sizeOf,typeInfo,hi,Builtin.lenOf,Builtin.firstCells,loadCells,loadCellsFrom]
  unfold Oper.wp;simp[execOp,hop,resolve,invoke,builtin,hs,hx,hrun,Result.andThen];exact hK _ _ (h _ w (OwG.nil _ _) (Fr.refl _ _))
end
end
end Go.Proofs.YtcgmohldcokccaaGreatDoor
