import Derived.Test.YtcgmohldcokccaaGreatDoorProg
import Derived.Laws.Bits64
import Derived.Lib.EndianBits
import Derived.Laws.CopyRow
import Derived.Deep.OwnRows
import Derived.Test.YtcgmohldcokccaaGreatDoorXR02
set_option linter.unusedVariables false
set_option maxHeartbeats 2000000
set_option maxRecDepth 100000
namespace Go.Proofs.YtcgmohldcokccaaGreatDoor
namespace Hx
def turn(n k:Nat):Nat:=n ^^^ n / 2 ^ k
theorem turn_lt{n:Nat}(h:n<18446744073709551616)(k:Nat):turn n k<18446744073709551616:=by
 have h2:n / 2 ^ k<18446744073709551616:=Nat.lt_of_le_of_lt (Nat.div_le_self _ _) h;have e:(2:Nat) ^ 64=18446744073709551616:=by decide
 have:=Nat.xor_lt_two_pow (n:=64) (by rw[e];exact h) (by rw[e];exact h2);rwa [e]at this
end Hx
section
open Go.RowKit
structure DTab (w:World):Prop where
 f0:w.cell? ⟨7,0,none⟩=some (.int .u64 13787848793156543929)
 f1:w.cell? ⟨7,1,none⟩=some (.int .u64 10723151780598845931)
 f3:w.cell? ⟨7,3,none⟩=some (.int .u64 11400714819323198485)
theorem GO{F:Nat->Prop}{w w':World}(hf:Fr F w w'){p:Addr}{v:Value}(h:w.cell? p=some v)(hn:¬F p.block):w'.cell? p=some v:=
 (hf.cell (World.block_lt_of_cell? w _ h) hn).trans h
theorem DTab.on{F:Nat->Prop}{w w':World}(h:DTab w)(hf:Fr F w w')(hn:¬F 7):DTab w':=by
 obtain⟨a,b,d⟩:=h;exact⟨GO hf a hn,GO hf b hn,GO hf d hn⟩
theorem DTab.sT{w w':World}(h:DTab w)(hs:Yc w w'):DTab w':=h.on hs fun e=>e
theorem LC{x s:Int}(h0:0<=x)(h1:x<18446744073709551616)(hs:1<=s):IntKind.u64.wrap (x.tdiv s)=x / s:=by
 rw[Int.tdiv_eq_ediv_of_nonneg h0,IntKind.wrap_u64];have a0:0<=x / s:=Int.ediv_nonneg h0 (by omega);have a1:x / s<=x:=Int.ediv_le_self s h0;exact Int.emod_eq_of_lt a0 (by omega)
theorem Ej(x:Int){s:Int}(hs:1<=s):IntKind.u64.wrap ((IntKind.u64.wrap x).tdiv s)=IntKind.u64.wrap x / s:=by
 refine LC ?_ ?_ hs
 ·rw[IntKind.wrap_u64];omega
 ·rw[IntKind.wrap_u64];omega
def Xj(n s:Int):Int:=bits .xor .u64 n (n / s)
def V7(n c:Int):Int:=IntKind.u64.wrap (n*c)
def Vc(n:Int):Int:=Xj (V7 (Xj (V7 (Xj n 1073741824) 13787848793156543929) 134217728) 10723151780598845931) 2147483648
def V8(a b:Int):Int:=Vc (IntKind.u64.wrap (V7 a 11400714819323198485+Vc b))
theorem LD(n:Int)(w:World):Yb 336 #[.int .u64 n,.int .i64 30] w (.int .u64 (Xj n 1073741824)):=by
 go_enter Tryz.func336,Tryz.ntmps336;go_wp2
 go_ret;exact⟨rfl,rfl⟩
theorem LE(n:Int)(w:World):Yb 336 #[.int .u64 n,.int .i64 27] w (.int .u64 (Xj n 134217728)):=by
 go_enter Tryz.func336,Tryz.ntmps336;go_wp2
 go_ret;exact⟨rfl,rfl⟩
theorem LF(n:Int)(w:World):Yb 336 #[.int .u64 n,.int .i64 31] w (.int .u64 (Xj n 2147483648)):=by
 go_enter Tryz.func336,Tryz.ntmps336;go_wp2
 go_ret;exact⟨rfl,rfl⟩
theorem DTab.drewN{w:World}(h:DTab w)(k:Nat):DTab (w.drewN k):=h.sT ((Fr.refl _ w).drewN k)
theorem LG(n:Int)(w:World)(ht:DTab w):Calls Tryz.prog 335 #[.int .u64 n] w fun e w'=>e=.returned (.int .u64 (Vc n))/\∃k,w'=w.drewN k:=by
 have c0:=ht.f0;go_enter Tryz.func335,Tryz.ntmps335;go_wp2
 go_quiet ((go_at_call 336;exact Calls.quiet_of_same (LD _ _)))
 have c1:=(ht.drewN nq).f1;generalize hW:w.drewN nq=w1 at c1⊢;have HW:=Lib.hid hW;clear hW c0;go_wp2
 go_quiet ((go_at_call 336;exact Calls.quiet_of_same (LE _ _)))
 go_wp2_with (go_at_call 336;refine(LF _ _).mono ?_;rintro e w' ⟨rfl,rfl⟩);go_ret;exact⟨rfl,_,by rw[<- HW.o,World.drewN_drewN]⟩
theorem LH(n:Int)(h0:0<=n)(h1:n<18446744073709551616)(w:World):Yb 307 #[.int .u64 n] w (.int .u64 (Vc n)):=by
 go_enter Tryz.func307,Tryz.ntmps307;go_wp2
 go_ret;refine⟨?_,rfl⟩;simp only[Ej _ (show(1:Int)<=134217728 by decide),Ej _ (show(1:Int)<=2147483648 by decide)];rfl
theorem Ub(x:Int):0<=IntKind.u64.wrap x/\IntKind.u64.wrap x<18446744073709551616:=by
 rw[IntKind.wrap_u64];omega
theorem Ek(x:Int)(h0:0<=x)(h1:x<18446744073709551616)(w:World):Calls Tryz.prog 307 #[.int .u64 x] w fun e w'=>∃y,e=.returned (.int .u64 y)/\Hid (y=Vc x)/\w'=w:=
 (LH x h0 h1 w).mono fun _ _ ⟨he,hw⟩=>⟨_,he,rfl,hw⟩
theorem LI(x:Int)(w:World):Calls Tryz.prog 307 #[.int .u64 (IntKind.u64.wrap x)] w fun e w'=>∃y,e=.returned (.int .u64 y)/\Hid (y=Vc (IntKind.u64.wrap x))/\w'=w:=Ek (IntKind.u64.wrap x) (Ub x).1 (Ub x).2 w
theorem LJ(a b:Int)(w:World)(ht:DTab w):Calls Tryz.prog 327 #[.int .u64 a,.int .u64 b] w fun e w'=>e=.returned (.int .u64 (V8 a b))/\∃k,w'=w.drewN k:=by
 have c3:=ht.f3;go_enter Tryz.func327,Tryz.ntmps327;go_wp2
 go_quiet ((go_at_call 335;exact Calls.quiet_of (LG _ _ (by first|exact ht|exact ht.drewN _))))
 go_wp2
 go_ret;exact⟨rfl,_,rfl⟩
theorem El(a b:Int)(hb0:0<=b)(hb1:b<18446744073709551616)(w:World):Yb 263 #[.int .u64 a,.int .u64 b] w (.int .u64 (V8 a b)):=by
 go_enter Tryz.func263,Tryz.ntmps263;go_wp2_with (go_at_call_of 307 (Value.int .u64 b);refine(Ek b hb0 hb1 _).mono ?_;rintro e w' ⟨y,rfl,HY,rfl⟩);clear hb0 hb1;refine(LI _ _).mono ?_;rintro e w' ⟨z,rfl,HZ,rfl⟩;go_wp2_with fail;go_ret;refine⟨?_,rfl⟩;have e1:=HZ.o;rw[HY.o]at e1;rw[show V8 a b=z from e1.symm];rfl
theorem LK(n k s:Nat)(hs:s=2 ^ k)(h:n<18446744073709551616):Xj (n:Int) (s:Int)=((Hx.turn n k:Nat):Int):=by
 unfold Xj Hx.turn;rw[xorShift_u64 n s h,hs]
theorem LM(n c:Int):0<=V7 n c/\V7 n c<18446744073709551616:=Ub _
theorem LN(n:Int):0<=Vc n/\Vc n<18446744073709551616:=by
 unfold Vc;obtain⟨h0,h1⟩:=LM (Xj (V7 (Xj n 1073741824) 13787848793156543929) 134217728) 10723151780598845931;generalize V7 (Xj (V7 (Xj n 1073741824) 13787848793156543929) 134217728) 10723151780598845931=m at h0 h1⊢;obtain⟨x,rfl⟩:∃x:Nat,m=(x:Int):=⟨m.toNat,by omega⟩;have hx:x<18446744073709551616:=by omega
 have e:Xj (x:Int) 2147483648=((Hx.turn x 31:Nat):Int):=LK x 31 2147483648 (by decide) hx;rw[e];have:=Hx.turn_lt hx 31;omega
theorem LO(a b:Int):0<=V8 a b/\V8 a b<18446744073709551616:=LN _
theorem Em(a b:Int)(w:World)(ht:DTab w):Ya 327 #[.int .u64 a,.int .u64 b] w (.int .u64 (V8 a b)):=by
 refine(LJ a b w ht).mono ?_;rintro e w' ⟨rfl,k,rfl⟩;exact⟨rfl,(Fr.refl _ w).drewN k⟩
end
namespace Rg
def sum:List Int->Int
 | []=>0
 | w :: r=>w+sum r
def pick(x:Int):List Int->Nat
 | []=>0
 | w :: r=>if x<w then 0 else pick (x-w) r+1
theorem sum_append(a b:List Int):sum (a ++ b)=sum a+sum b:=by
 induction a with
 | nil=>simp[sum]
 | cons w r ih=>simp[sum,ih];omega
theorem sum_nonneg{l:List Int}(h:∀w∈l,0<=w):0<=sum l:=by
 induction l with
 | nil=>simp[sum]
 | cons w r ih =>
  have h1:=h w (List.mem_cons_self ..);have h2:=ih fun v hv=>h v (List.mem_cons_of_mem _ hv);simp only[sum];omega
theorem sum_le{l:List Int}{m:Int}(h:∀w∈l,w<=m):sum l<=l.length*m:=by
 induction l with
 | nil=>simp[sum]
 | cons w r ih =>
  have h1:=h w (List.mem_cons_self ..);have h2:=ih fun v hv=>h v (List.mem_cons_of_mem _ hv);simp only[sum,List.length_cons];rw[Int.natCast_add,Int.add_mul];have:((1:Nat):Int)*m=m:=by simp
  omega
theorem pick_ok:∀(l:List Int) (x:Int),(∀w∈l,0<=w)->0<=x->x<sum l->∃h:pick x l<l.length,0<l[pick x l]
 | [],x,_,h0,h1=>by simp[sum]at h1;omega
 | w :: r,x,hw,h0,h1=>by
  by_cases hx:x<w
  ·have e:pick x (w :: r)=0:=by simp[pick,hx]
   refine⟨by simp[e],?_⟩;simp only[e,List.getElem_cons_zero];omega
  ·have e:pick x (w :: r)=pick (x-w) r+1:=by simp[pick,hx]
   obtain⟨a,b⟩:=pick_ok r (x-w) (fun v hv=>hw v (List.mem_cons_of_mem _ hv)) (by omega) (by simp only[sum]at h1;omega);refine⟨by simp only[e,List.length_cons];omega,?_⟩;simp only[e,List.getElem_cons_succ];exact b
theorem pick_step{l:List Int}{i:Nat}{x y:Int}(hi:i<l.length)(h:pick x l=i+pick y (l.drop i))(hy:¬y<l[i]):pick x l=(i+1)+pick (y-l[i]) (l.drop (i+1)):=by
 rw[h,List.drop_eq_getElem_cons hi];simp only[pick,if_neg hy];omega
theorem pick_here{l:List Int}{i:Nat}{x y:Int}(hi:i<l.length)(h:pick x l=i+pick y (l.drop i))(hy:y<l[i]):pick x l=i:=by
 rw[h,List.drop_eq_getElem_cons hi];simp only[pick,if_pos hy];omega
end Rg
section
open Go.RowKit
structure RdI (w:World) (ao:Option Addr) (n cap:Nat) (bs:List Int):Prop where
 len:bs.length=n
 le:n<=cap
 max:cap<=maxLen
 plain:∀a,ao=some a->0<n->a.spot=none
 nil:ao=none->cap=0
 cells:∀a,ao=some a->∀j (h:j<bs.length),w.cell? ⟨a.block,a.off+j,none⟩=some (.int .i64 bs[j])
theorem RdI.empty(w:World):RdI w none 0 0 []:=⟨rfl,Nat.le_refl _,by unfold maxLen;omega,fun _ h _=>(by cases h),fun _=>rfl,fun _ h=>(by cases h)⟩
theorem RdI.addr{w:World}{ao:Option Addr}{n cap:Nat}{bs:List Int}(h:RdI w ao n cap bs)(hn:0<n):∃b o,ao=some ⟨b,o,none⟩:=by
 cases ao with
 | none=>have:=h.nil rfl;have:=h.le;omega
 | some a =>
  obtain⟨b,o,s⟩:=a;have:=h.plain _ rfl hn;simp at this;subst this;exact⟨b,o,rfl⟩
theorem RdI.small{w:World}{ao:Option Addr}{n cap:Nat}{bs:List Int}(h:RdI w ao n cap bs):n<=9223372036854775807:=by
 have h1:=h.le;have h2:=h.max;unfold maxLen at h2;omega
theorem RdI.kept{F:Nat->Prop}{w w':World}{ao:Option Addr}{n cap:Nat}{bs:List Int}(h:RdI w ao n cap bs)(hf:Fr F w w')(hn:∀a,ao=some a->0<n->¬F a.block):RdI w' ao n cap bs:=
 ⟨h.len,h.le,h.max,h.plain,h.nil,fun a ha j hj=>by
  have hc:=h.cells a ha j hj;have hlt:=World.block_lt_of_cell? w _ hc;rw[hf.cell hlt (hn a ha (by have:=h.len;omega)),hc]⟩
theorem RdI.sT{w w':World}{ao:Option Addr}{n cap:Nat}{bs:List Int}(h:RdI w ao n cap bs)(hf:Yc w w'):RdI w' ao n cap bs:=h.kept hf fun _ _ _ e=>e
theorem RdI.drewN{w:World}{ao:Option Addr}{n cap:Nat}{bs:List Int}(h:RdI w ao n cap bs)(k:Nat):RdI (w.drewN k) ao n cap bs:=h.sT ((Fr.refl _ w).drewN k)
theorem RdI.byte{w:World}{b o n cap:Nat}{bs:List Int}(h:RdI w (some ⟨b,o,none⟩) n cap bs){k:Nat}(hk:k<bs.length):w.cell? ⟨b,o+k,none⟩=some (.int .i64 bs[k]):=h.cells _ rfl k hk
theorem RdI.take{w:World}{ao:Option Addr}{n cap:Nat}{bs:List Int}(h:RdI w ao n cap bs){i:Nat}(hi:i<=n):RdI w ao i cap (bs.take i):=by
 have hl:=h.len;refine⟨by simp;omega,by have:=h.le;omega,h.max,fun a ha hp=>h.plain a ha (by omega),h.nil,fun a ha j hj=>?_⟩;simp at hj;simp only[List.getElem_take];exact h.cells a ha j (by omega)
structure OwI (e:TypeId) (w:World) (ao:Option Addr) (n cap:Nat) (bs:List Int):Prop where
 rd:RdI w ao n cap bs
 row:∀a,ao=some a->a.off=0/\a.spot=none/\∃cur,w.heap[a.block]?=some (.cells cur e (0,0))/\cur.size=cap
theorem OwI.empty(e:TypeId)(w:World):OwI e w none 0 0 []:=⟨RdI.empty w,fun _ h=>by cases h⟩
theorem OwI.kept{F:Nat->Prop}{e:TypeId}{w w':World}{ao:Option Addr}{n cap:Nat}{bs:List Int}(h:OwI e w ao n cap bs)(hf:Fr F w w')(hn:∀a,ao=some a->¬F a.block):OwI e w' ao n cap bs:=
 ⟨h.rd.kept hf fun a ha _=>hn a ha,fun a ha=>by
  obtain⟨h0,hp,cur,hg,hs⟩:=h.row a ha;exact⟨h0,hp,cur,hf.kept hg (hn a ha),hs⟩⟩
theorem OwI.sT{e:TypeId}{w w':World}{ao:Option Addr}{n cap:Nat}{bs:List Int}(h:OwI e w ao n cap bs)(hf:Yc w w'):OwI e w' ao n cap bs:=h.kept hf fun _ _ e=>e
theorem OwI.alloc{e:TypeId}{w:World}{ao:Option Addr}{n cap:Nat}{bs:List Int}(h:OwI e w ao n cap bs)(o:Obj):OwI e (w.alloc o) ao n cap bs:=h.sT (sA w o)
def YI(bs:List Int):List Value:=bs.map fun b=>.int .i64 b
theorem LP{bs:List Int}{j:Nat}{u:Value}(h:(YI bs)[j]?=some u):∃hj:j<bs.length,u=.int .i64 bs[j]:=by
 unfold YI at h;rw[List.getElem?_map]at h;cases hb:bs[j]? with
 | none=>simp[hb]at h
 | some b =>
  obtain⟨hj,hb'⟩:=List.getElem?_eq_some_iff.1 hb;simp[hb]at h;exact⟨hj,by rw[hb'];exact h.symm⟩
theorem LQ{bs:List Int}{j:Nat}(hj:j<bs.length):(YI bs).toArray[j]?=some (.int .i64 bs[j]):=by
 simp[YI,hj]
theorem RdI.cellsAt{w:World}{a:Addr}{n cap:Nat}{bs:List Int}(h:RdI w (some a) n cap bs):∀j u,(YI bs)[j]?=some u->w.cell? (a.add j)=some u:=by
 intro j u hu;obtain⟨hj,rfl⟩:=LP hu;obtain⟨b,o,s⟩:=a;have:=h.plain _ rfl (by have:=h.len;omega);simp at this;subst this;rw[add_plain];exact h.byte hj
theorem LR(bs:List Int):∀u∈YI bs,u.oneCell'=true:=by
 intro u hu;obtain⟨_,_,rfl⟩:=List.mem_map.1 hu;rfl
section
variable {P:Program}
theorem OwI.fresh{e:TypeId}(w:World)(cur:Array Value)(cap n:Nat)(bs:List Int)(hl:bs.length=n)(hn:n<=cap)(hm:cap<=maxLen)(hc:cur.size=cap)(ht:∀j (h:j<bs.length),cur[j]?=some (.int .i64 bs[j])) :
  OwI e (w.alloc (.cells cur e)) (some ⟨w.heap.size,0,none⟩) n cap bs:=by
 have hh:(w.alloc (.cells cur e)).heap[w.heap.size]?=some (.cells cur e (0,0)):=heap_alloc_new w _;refine⟨⟨hl,hn,hm,fun a ha _=>?_,fun h=>(by cases h),fun a ha j hj=>?_⟩,fun a ha=>?_⟩
 ·cases ha;rfl
 ·cases ha;rw[cell_of_row _ _ _ _ _ _ hh,Nat.zero_add];exact ht j hj
 ·cases ha;exact⟨rfl,rfl,cur,hh,hc⟩
theorem LS(w:World)(t ty e:TypeId)(i:TypeInfo)(ht:P.underlying t=some (.slice e))(hi:P.info? e=some i)(hz:i.zero=some (.int .i64 0))(hs:i.size=1)(hb:i.bytes=8)
  {ao so:Option Addr} {n cap m c:Nat} {bs cs:List Int} (ho:OwI e w ao n cap bs) (hr:RdI w so m c cs) (h47:n+m<=17592186044416) :
  ∃ao' cap' w',(Builtin.append_ #[t,t] ty #[.slice ao n cap,.slice so m c]).run P w=.ok (.slice ao' (n+m) cap') w'/\OwI e w' ao' (n+m) cap' (bs ++ cs) /\
   Fr (fun k=>∃a,ao=some a/\a.block=k) w w'/\(∀a,ao'=some a->ao=some a\/w.heap.size<=a.block)/\(ao'=none->m=0/\ao=none):=by
 have hlb:=ho.rd.len;have hlc:=hr.len;have hle:=ho.rd.le;have hmx:=ho.rd.max;have h63:n+m<=9223372036854775807:=by omega
 cases so with
 | none =>
  have h1:=hr.nil rfl;have h2:=hr.le;have hm:m=0:=by omega
  subst hm;have hc:c=0:=by omega
  subst hc;have hcs:cs=[]:=List.eq_nil_of_length_eq_zero (by omega);subst hcs;refine⟨ao,cap,w,?_,by simpa using ho,Fr.refl _ _,fun a ha=>.inl ha,fun h=>⟨rfl,h⟩⟩;simp[Builtin.append_,run_underlying ht,sizeOf,typeInfo,hi,Builtin.lenOf,run_firstCells_none,hle];cases ao with
  | none=>simp
  | some a=>simp[storeCells]
 | some sa =>
  have hnews:=hr.cellsAt;have hl:(YI cs).length=m*i.size:=by simp[YI,hs,hlc]
  cases ao with
  | none =>
   have hcap:=ho.rd.nil rfl;subst hcap;have hn0:n=0:=by omega
   subst hn0;have hbs:bs=[]:=List.eq_nil_of_length_eq_zero hlb;subst hbs;by_cases hm:m=0
   ·subst hm;have hcs:cs=[]:=List.eq_nil_of_length_eq_zero hlc;subst hcs;refine⟨none,0,w,?_,OwI.empty e w,Fr.refl _ _,fun a ha=>.inl ha,fun _=>⟨rfl,rfl⟩⟩;simp[Builtin.append_,run_underlying ht,sizeOf,typeInfo,hi,Builtin.lenOf,Builtin.firstCells,loadCells,loadCellsFrom]
   ·have hr':=run_append_nil (P:=P) w t ty e i _ ht hi hz sa m c (YI cs) hl hnews (by omega) (by omega) (by rw[hb];omega);have hge:=grownCap_ge w m 0 e;have hgm:=grownCap_le_maxLen w m 0 e (by unfold maxLen;omega);refine⟨_,_,_,by rw[Nat.zero_add];exact hr',?_,((Fr.refl _ w).drew.alloc _),fun a ha=>.inr (by cases ha;exact Nat.le_refl _),fun h=>by cases h⟩;rw[List.nil_append,Nat.zero_add];exact OwI.fresh w.drew _ _ m cs hlc hge hgm (by simp[YI,hlc,Builtin.zeroCells,Value.cells];omega) (fun j hj=>by
     rw[Array.getElem?_append_left (by simpa[YI]using hj)];simp[YI,hj])
  | some a =>
   obtain⟨b,o,sp⟩:=a;obtain⟨h0,hp,cur,hg,hcs⟩:=ho.row _ rfl;simp at h0 hg hp;subst h0;subst hp;by_cases hroom:n+m<=cap
   ·have hfit:n*i.size+(YI cs).length<=cur.size:=by simp[hs,YI,hlc];omega
    have hr':=run_append_room (P:=P) w t ty e i ht hi b n cap cur hg sa m c (YI cs) hl hnews (LR cs) hroom hfit;refine⟨_,_,_,hr',?_,(Fr.refl _ w).setRow b _ (.inl ⟨_,rfl,rfl⟩),fun a ha=>.inl ha,fun h=>by cases h⟩;have hgn:=setRow_heap w b cur (cur.toList.take (n*i.size) ++ YI cs ++ cur.toList.drop (n*i.size+(YI cs).length)).toArray e _ hg;have hcl:(YI cs).length=m:=by simp[YI,hlc]
    refine⟨⟨by simp[hlb,hlc],hroom,hmx,fun a ha _=>(by cases ha;rfl),fun h=>(by cases h),fun a ha j hj=>?_⟩,fun a ha=>?_⟩
    ·cases ha;rw[cell_of_row _ _ _ _ _ _ hgn];simp only[Nat.zero_add,List.getElem?_toArray,hs,Nat.mul_one];simp at hj;by_cases hjn:j<n
     ·rw[List.append_assoc,List.getElem?_append_left (by simp;omega),List.getElem?_take_of_lt hjn];have h1:=ho.rd.byte (k:=j) (by omega);rw[cell_of_row _ _ _ _ _ _ hg]at h1;simp only[Nat.zero_add]at h1;rw[List.getElem_append_left (by omega)];simpa using h1
     ·have htl:(cur.toList.take n).length=n:=by simp;omega
      rw[List.append_assoc,List.getElem?_append_right (by omega),List.getElem?_append_left (by rw[htl,hcl];omega),htl];rw[List.getElem_append_right (by omega)];have hj2:j-n<cs.length:=by omega
      simp only[YI,List.getElem?_map,hlb,List.getElem?_eq_getElem hj2,Option.map_some]
    ·cases ha;refine⟨rfl,rfl,_,hgn,?_⟩;simp only[List.size_toArray,List.length_append,List.length_take,List.length_drop,Array.length_toList,hs,Nat.mul_one,hcl];omega
   ·have holds:∀j u,(YI bs)[j]?=some u->w.cell? ((⟨b,0,none⟩:Addr).add j)=some u:=ho.rd.cellsAt;have hr':=run_append_grow (P:=P) w t ty e i _ ht hi hz ⟨b,0,none⟩ n cap (YI bs) (by simp[YI,hs,hlb]) holds sa m c (YI cs) hl hnews (by omega) (by omega) (by rw[hb];exact growslice_fits (by omega) (by omega));have hge:=grownCap_ge w (n+m) cap e;have hgm:=grownCap_le_maxLen w (n+m) cap e (by unfold maxLen;omega);refine⟨_,_,_,hr',?_,((Fr.refl _ w).drew.alloc _),fun a ha=>.inr (by cases ha;exact Nat.le_refl _),fun h=>by cases h⟩;exact OwI.fresh w.drew _ _ (n+m) (bs ++ cs) (by simp[hlb,hlc]) hge hgm (by simp[YI,hlb,hlc,Builtin.zeroCells,Value.cells];omega) (fun j hj=>by
     have hcl:(YI bs).toArray ++ (YI cs).toArray=(YI (bs ++ cs)).toArray:=by simp[YI]
     rw[hcl,Array.getElem?_append_left (by simpa[YI]using hj)];exact LQ hj)
theorem Uc(w:World){ops:Array Oper}{rest:List Oper}{o:Oper}{a:Act}{Q:Exit->Act->World->Prop}(hgd:o.guard=none)(s x:Operand)(t:TypeId)
  (hop:o.op=.call { callee:=.builtin .append,args:=#[s,x],argTypes:=#[t,t] })
  (e:TypeId) (i:TypeInfo) (ht:P.underlying t=some (.slice e)) (hi:P.info? e=some i) (hz:i.zero=some (.int .i64 0)) (hs1:i.size=1) (hb:i.bytes=8)
  (ao so:Option Addr) (n cap m c:Nat) (bs cs:List Int) (hs:a.eval s=.slice ao n cap) (hx:a.eval x=.slice so m c) (ho:OwI e w ao n cap bs) (hr:RdI w so m c cs) (h47:n+m<=17592186044416)
  (h:∀ao' cap' w',OwI e w' ao' (n+m) cap' (bs ++ cs)->Fr (fun k=>∃a,ao=some a/\a.block=k) w w'->(∀a,ao'=some a->ao=some a\/w.heap.size<=a.block)->(ao'=none->m=0/\ao=none) ->
   wpList P ops Q rest (a.put o.dst (.slice ao' (n+m) cap')) w'):wpList P ops Q (o :: rest) a w:=by
 refine wpList_plain hgd fun _ hK=>?_;obtain⟨ao',cap',w',hrun,h1,h2,h3,h4⟩:=LS (P:=P) w t o.type e i ht hi hz hs1 hb ho hr h47;unfold Oper.wp execOp;simp only[hop,resolve,invoke,builtin,Sem.run_bind,Sem.run_pure,Result.andThen_ok,List.map_toArray,List.map_cons,List.map_nil,hs,hx,hrun];exact hK _ _ (h ao' cap' w' h1 h2 h3 h4)
end
theorem En:(Tryz.prog.info? 3).map (fun i=>(i.zero,i.size,i.bytes))=some (some (.int .i64 0),1,8):=by kernel_rfl
def atI(s f u:Int):Int:=V8 (V8 s (IntKind.u64.wrap f)) (IntKind.u64.wrap u)
theorem UP(s f u:Int):0<=atI s f u/\atI s f u<18446744073709551616:=LO _ _
theorem Eo(s f u:Int)(w:World)(ht:DTab w):Ya 301 #[.int .u64 s,.int .i64 f,.int .i64 u] w (.int .u64 (atI s f u)):=by
 go_enter Tryz.func301,Tryz.ntmps301;go_wp2_with fail;refine(Em _ _ _ ht).mono ?_;rintro e w1 ⟨rfl,h1⟩;go_wp2_with fail;refine(Em _ _ _ (ht.sT h1)).mono ?_;rintro e w2 ⟨rfl,h2⟩;go_wp2_with fail;go_ret;exact⟨rfl,h1.trans h2⟩
theorem Ep(s f u:Int)(w:World):Yb 200 #[.int .u64 s,.int .i64 f,.int .i64 u] w (.int .u64 (atI s f u)):=by
 go_enter Tryz.func200,Tryz.ntmps200;go_wp2_with fail;refine(El _ _ (Ub f).1 (Ub f).2 _).mono ?_;rintro e w1 ⟨rfl,rfl⟩;go_wp2_with fail;refine(El _ _ (Ub u).1 (Ub u).2 _).mono ?_;rintro e w2 ⟨rfl,rfl⟩;go_wp2_with fail;go_ret;exact⟨rfl,rfl⟩
def Tk(w:World)(v:Value)(n:Int):Prop:=∃b,v=.func (.func 326) #[] #[.pointer (some ⟨b,0,none⟩)]/\w.cell? ⟨b,0,none⟩=some (.int .u64 n)
theorem Es(n:Int)(w:World):Calls Tryz.prog 300 #[.int .u64 n] w fun e w'=>∃v,e=.returned v/\Tk w' v n/\Yc w w':=by
 have hmf:∀(fn:Fn) (first cap:Array Value) (w:World),(Instr.makeFunc fn first cap).run Tryz.prog w=.ok (.func fn first cap) w:=fun _ _ _ _=>rfl;go_enter Tryz.func300,Tryz.ntmps300;go_wp2
 go_ret;refine⟨_,rfl,⟨_,rfl,?_⟩,sA w _⟩;rw[cell_of_row _ _ _ _ _ _ (heap_alloc_new w _)];rfl
theorem KR{n m:Int}(h0:0<=n)(hm:0<m):0<=n % m/\n % m<m/\n % m<=n:=by
 have a0:0<=n % m:=Int.emod_nonneg _ (by omega);have a2:n % m<m:=Int.emod_lt_of_pos _ hm;have h1:=Int.emod_add_mul_ediv n m;have h2:0<=m*(n / m):=Int.mul_nonneg (by omega) (Int.ediv_nonneg h0 (by omega));omega
theorem Et(n m:Int)(h0:0<=n)(hm:0<m)(b:Nat)(w:World)(hc:w.cell? ⟨b,0,none⟩=some (.int .u64 n)) :
  Yb 326 #[.int .u64 m,.pointer (some ⟨b,0,none⟩)] w (.int .u64 (n % m)):=by
 have H:=Lib.hid (Int.tmod_eq_emod_of_nonneg (b:=m) h0);have hm':(m == 0)=false:=by simp;omega
 clear h0;go_enter Tryz.func326,Tryz.ntmps326;go_wp2
 go_ret;rw[<- H.o];exact⟨rfl,rfl⟩
theorem LT{l h:Int}(hl:-9223372036854775808<=l)(hh:h<=9223372036854775807)(hlh:l<=h)(hn:¬(l=-9223372036854775808/\h=9223372036854775807)) :
  IntKind.u64.wrap (IntKind.u64.wrap (IntKind.u64.wrap h-IntKind.u64.wrap l)+1)=h-l+1:=by
 simp only[IntKind.wrap_u64];omega
theorem LU{l r:Int}(hl:-9223372036854775808<=l)(h0:0<=r)(h1:l+r<=9223372036854775807):wrap64 (IntKind.u64.wrap (IntKind.u64.wrap l+r))=l+r:=by
 unfold wrap64;rw[IntKind.wrap_u64,IntKind.wrap_u64];omega
theorem LV(l h n:Int)(v:Value)(hl:-9223372036854775808<=l)(hh:h<=9223372036854775807)(hlh:l<=h)(hn:¬(l=-9223372036854775808/\h=9223372036854775807))(n0:0<=n)(w:World)(ht:Tk w v n) :
  Yb 299 #[.int .i64 l,.int .i64 h,v] w (.int .i64 (l+n % (h-l+1))):=by
 obtain⟨b,rfl,hc⟩:=ht;have HM:=Lib.hid (LT hl hh hlh hn);have hr:=KR (m:=h-l+1) n0 (by omega);have HB:=Lib.hid (LU (r:=n % (h-l+1)) hl hr.1 (by omega));have HP:=Lib.hid (show 0<h-l+1 by omega);clear hl hh hlh hn hr;go_enter Tryz.func299,Tryz.ntmps299;go_wp2_with fail;refine(Et n _ n0 (by rw[HM.o];exact HP.o) b _ hc).mono ?_;rintro e w1 ⟨rfl,rfl⟩;go_wp2_with fail;go_ret;rw[<- HB.o,<- HM.o];exact⟨rfl,rfl⟩
def bel(n k:Int):Int:=if k<1 then 0 else n % k
def X6(k:Int):Int:=if k<1 then 40 else 0
theorem LW(s f u k:Int)(hk:k<=9223372036854775807)(w:World)(ht:DTab w):Ya 254 #[.int .u64 s,.int .i64 f,.int .i64 u,.int .i64 k] w (.tuple #[.int .i64 (bel (atI s f u) k),.int .i64 (X6 k)]):=by
 by_cases h:k<1
 ·have e1:bel (atI s f u) k=0:=by simp[bel,h]
  have e2:X6 k=40:=by simp[X6,h]
  rw[e1,e2];clear e1 e2 hk;go_enter Tryz.func254,Tryz.ntmps254;go_wp2
  go_ret2
  exact⟨rfl,Fr.refl _ _⟩
 ·have e1:bel (atI s f u) k=atI s f u % k:=by simp[bel,h]
  have e2:X6 k=0:=by simp[X6,h]
  rw[e1,e2];have n0:=(UP s f u).1;have HW:=hid fun v w1 h1=>LV 0 (k-1) (atI s f u) v (by omega) (by omega) (by omega) (by omega) n0 w1 h1;clear e1 e2 n0;go_enter Tryz.func254,Tryz.ntmps254;go_wp2_with fail;refine(Eo s f u w ht).mono ?_;rintro e w1 ⟨rfl,h1⟩;go_wp2_with fail;refine(Es _ w1).mono ?_;rintro e w2 ⟨v,rfl,hv,h2⟩;go_wp2_with fail;refine(HW.o v w2 hv).mono ?_;rintro e w3 ⟨rfl,rfl⟩;go_wp2_with fail;go_ret2
  exact⟨rfl,h1.trans h2⟩
theorem Eu{n k:Int}(h0:0<=n)(h1:n<18446744073709551616)(hk:0<k)(hk2:k<=9223372036854775807):wrap64 (n.tmod (IntKind.u64.wrap k))=n % k:=by
 have hr:=KR (m:=k) h0 hk;have e:IntKind.u64.wrap k=k:=by rw[IntKind.wrap_u64];omega
 rw[e,Int.tmod_eq_emod_of_nonneg h0];unfold wrap64;omega
theorem Ev{k:Int}(hk:0<k)(hk2:k<=9223372036854775807):¬IntKind.u64.wrap k=0:=by
 rw[IntKind.wrap_u64];omega
theorem LX(s f u k:Int)(hk:k<=9223372036854775807)(w:World):Yb 134 #[.int .u64 s,.int .i64 f,.int .i64 u,.int .i64 k] w (.tuple #[.int .i64 (bel (atI s f u) k),.int .i64 (X6 k)]):=by
 by_cases h:k<1
 ·have e1:bel (atI s f u) k=0:=by simp[bel,h]
  have e2:X6 k=40:=by simp[X6,h]
  rw[e1,e2];clear e1 e2 hk;go_enter Tryz.func134,Tryz.ntmps134;go_wp2
  go_ret2
  exact⟨rfl,rfl⟩
 ·have e1:bel (atI s f u) k=atI s f u % k:=by simp[bel,h]
  have e2:X6 k=0:=by simp[X6,h]
  rw[e1,e2];have HB:=hid (Eu (UP s f u).1 (UP s f u).2 (show 0<k by omega) hk);have hz:=Ev (show 0<k by omega) hk;clear e1 e2 hk;go_enter Tryz.func134,Tryz.ntmps134;go_wp2_with fail;refine(Ep s f u w).mono ?_;rintro e w1 ⟨rfl,rfl⟩;go_wp2_with fail;go_ret2
  rw[<- HB.o];exact⟨rfl,rfl⟩
def okW(v:Int):Prop:=0<=v/\v<=2147483647
theorem Ew(v:Int):okW v \/ ¬okW v:=by unfold okW;omega
theorem UQ{bs:List Int}{k:Nat}(hk:k<bs.length):Rg.sum (bs.take (k+1))=Rg.sum (bs.take k)+bs[k]:=by
 rw[List.take_succ_eq_append_getElem hk,Rg.sum_append];simp[Rg.sum]
theorem KU{bs:List Int}(h:∀v∈bs,okW v)(hn:bs.length<=64):0<=Rg.sum bs/\Rg.sum bs<=137438953408:=by
 refine⟨Rg.sum_nonneg fun v hv=>(h v hv).1,?_⟩;have:=Rg.sum_le (m:=2147483647) fun v hv=>(h v hv).2;omega
theorem Ex{bs:List Int}(h:∀v∈bs,okW v)(hn:bs.length<=64)(k:Nat):0<=Rg.sum (bs.take k)/\Rg.sum (bs.take k)<=137438953408:=
 KU (fun v hv=>h v (List.mem_of_mem_take hv)) (by simp;omega)
theorem Ey{a x y:Int}(ha:0<=a/\a<=137438953408)(hx:okW x)(hy:y=a+x):IntKind.u64.wrap (a+IntKind.u64.wrap x)=y:=by
 obtain⟨h0,h1⟩:=hx;subst hy;rw[IntKind.wrap_u64,IntKind.wrap_u64];omega
theorem Ez(v:Int)(h:okW v)(w:World):Yb 303 #[.int .i64 v] w (.bool false):=by
 obtain⟨h0,h1⟩:=h;have h0':¬v<0:=by omega
 have h1':¬2147483647<v:=by omega
 clear h0 h1;go_enter Tryz.func303,Tryz.ntmps303;go_wp2
 go_ret;exact⟨rfl,rfl⟩
theorem LY(v:Int)(h:¬okW v)(w:World):Yb 303 #[.int .i64 v] w (.bool true):=by
 by_cases h0:v<0
 ·clear h;go_enter Tryz.func303,Tryz.ntmps303;go_wp2
  go_ret;exact⟨rfl,rfl⟩
 ·have h1:2147483647<v:=by unfold okW at h;omega
  clear h;go_enter Tryz.func303,Tryz.ntmps303;go_wp2
  go_ret;exact⟨rfl,rfl⟩
theorem LZ(ao:Option Addr)(n cap:Nat)(bs:List Int)(w:World)(hr:RdI w ao n cap bs)(hok:∀v∈bs,okW v) :
  Yb 328 #[.slice ao n cap,.func (.func 303) #[] #[]] w (.int .i64 (-1)):=by
 have hlen:=hr.len;have hsm:=hr.small;go_enter Tryz.func328,Tryz.ntmps328;go_wp2
 go_loopw [8] (fun vi wr=>∃k:Nat,k<=n/\vi=.int .i64 (k:Int)/\wr=w) (fun vi _=>n-(intOf vi).toNat);case atStart=>exact⟨0,Nat.zero_le _,rfl,rfl⟩
 case round =>
  obtain⟨k,hk,rfl,rfl⟩:=hrel;by_cases hlt:k<n
  ·have hkl:k<bs.length:=by omega
   obtain⟨b,o,rfl⟩:=hr.addr (by omega);have hc:=hr.byte hkl;have hT:=hid (Ez bs[k] (hok _ (List.getElem_mem hkl)) wr);obtain⟨x,hx⟩:∃x,x=bs[k]:=⟨_,rfl⟩;rw[<- hx]at hc hT;clear hx hok hr hlen;go_wp2_with (go_at_call 303;refine hT.o.mono ?_;rintro e w2 ⟨rfl,rfl⟩);go_roundw;case rel=>exact⟨k+1,by omega,by go_num,by trivial⟩
   case measure=>simp[intOf];omega
  ·clear hr hok;go_wp2
   go_ret;exact⟨rfl,rfl⟩
theorem Ma(ao:Option Addr)(n cap:Nat)(bs:List Int)(w:World)(hr:RdI w ao n cap bs)(hno:¬∀v∈bs,okW v) :
  Calls Tryz.prog 328 #[.slice ao n cap,.func (.func 303) #[] #[]] w fun e w'=>∃k:Nat,e=.returned (.int .i64 (k:Int))/\w'=w:=by
 have hlen:=hr.len;have hsm:=hr.small;have HN:=hid hno;clear hno;go_enter Tryz.func328,Tryz.ntmps328;go_wp2
 go_loopw [8] (fun vi wr=>∃k:Nat,k<=n/\vi=.int .i64 (k:Int)/\Hid (∀v∈bs.take k,okW v)/\wr=w) (fun vi _=>n-(intOf vi).toNat);case atStart=>exact⟨0,Nat.zero_le _,rfl,hid (by simp),rfl⟩
 case round =>
  obtain⟨k,hk,rfl,HK,rfl⟩:=hrel;by_cases hlt:k<n
  ·have hkl:k<bs.length:=by omega
   obtain⟨b,o,rfl⟩:=hr.addr (by omega);have hc:=hr.byte hkl;rcases Ew bs[k]with hw|hw
   ·have hT:=hid (Ez bs[k] hw wr);have HK2:Hid (∀v∈bs.take (k+1),okW v):=hid (by
     intro v hv;rw[List.take_succ_eq_append_getElem hkl]at hv;rcases List.mem_append.1 hv with hv|hv
     ·exact HK.o v hv
     ·simp at hv;rw[hv];exact hw)
    obtain⟨x,hx⟩:∃x,x=bs[k]:=⟨_,rfl⟩;rw[<- hx]at hc hT;clear hx hr hlen hw HK;go_wp2_with (go_at_call 303;refine hT.o.mono ?_;rintro e w2 ⟨rfl,rfl⟩);go_roundw;case rel=>exact⟨k+1,by omega,by go_num,HK2,by trivial⟩
    case measure=>simp[intOf];omega
   ·have hT:=hid (LY bs[k] hw wr);obtain⟨x,hx⟩:∃x,x=bs[k]:=⟨_,rfl⟩;rw[<- hx]at hc hT;clear hx hr hlen hw HK;go_wp2_with (go_at_call 303;refine hT.o.mono ?_;rintro e w2 ⟨rfl,rfl⟩);go_ret;exact⟨k,rfl,rfl⟩
  ·exact absurd (by have:=HK.o;rwa [List.take_of_length_le (by omega)]at this) HN.o
theorem Mc(ao:Option Addr)(n cap:Nat)(bs:List Int)(w:World)(hr:RdI w ao n cap bs)(hok:∀v∈bs,okW v) :
  Yb 302 #[.slice ao n cap,.func (.func 303) #[] #[]] w (.bool false):=by
 go_enter Tryz.func302,Tryz.ntmps302;go_wp2_with fail;refine(LZ ao n cap bs w hr hok).mono ?_;rintro e w2 ⟨rfl,rfl⟩;go_wp2_with fail;go_ret;exact⟨rfl,rfl⟩
theorem Md(ao:Option Addr)(n cap:Nat)(bs:List Int)(w:World)(hr:RdI w ao n cap bs)(hno:¬∀v∈bs,okW v) :
  Yb 302 #[.slice ao n cap,.func (.func 303) #[] #[]] w (.bool true):=by
 go_enter Tryz.func302,Tryz.ntmps302;go_wp2_with fail;refine(Ma ao n cap bs w hr hno).mono ?_;rintro e w2 ⟨k,rfl,rfl⟩;have hk:(0:Int)<=(k:Int):=by omega
 go_wp2_with fail;go_ret;exact⟨rfl,rfl⟩
theorem E3(ao:Option Addr)(n cap:Nat)(bs:List Int)(w:World)(hr:RdI w ao n cap bs)(hok:∀v∈bs,okW v)(h64:n<=64) :
  Yb 304 #[.slice ao n cap] w (.int .u64 (Rg.sum bs)):=by
 have hlen:=hr.len;go_enter Tryz.func304,Tryz.ntmps304;go_wp2
 go_loopw [3,8] (fun va vi wr=>∃(k:Nat) (a:Int),k<=n/\va=.int .u64 a/\vi=.int .i64 (k:Int)/\Hid (a=Rg.sum (bs.take k))/\wr=w) (fun _ vi _=>n-(intOf vi).toNat);case atStart=>exact⟨0,_,Nat.zero_le _,rfl,rfl,rfl,rfl⟩
 case round =>
  obtain⟨k,a,hk,rfl,rfl,HA,rfl⟩:=hrel;by_cases hlt:k<n
  ·have hkl:k<bs.length:=by omega
   obtain⟨b,o,rfl⟩:=hr.addr (by omega);have hc:=hr.byte hkl;have HS:=hid (Ey (a:=a) (x:=bs[k]) (y:=Rg.sum (bs.take (k+1))) (by rw[HA.o];exact Ex hok (by omega) k) (hok _ (List.getElem_mem hkl)) (by rw[HA.o];exact UQ hkl));obtain⟨x,hx⟩:∃x,x=bs[k]:=⟨_,rfl⟩;rw[<- hx]at hc HS;clear hx hr hok hlen;go_wp2
   go_roundw;case rel=>exact⟨k+1,_,by omega,rfl,by go_num,HS,by trivial⟩
   case measure=>simp[intOf];omega
  ·have hkn:k=n:=by omega
   rw[List.take_of_length_le (by omega)]at HA;clear hr hok hlen;go_wp2
   go_ret;rw[<- HA.o];exact⟨rfl,rfl⟩
theorem Me{bs:List Int}{L:Int}{i:Nat}(hi:i<bs.length)(hpk:Rg.pick L bs<bs.length)(h:Rg.pick L bs=i+Rg.pick (L-Rg.sum (bs.take i)) (bs.drop i))(hle:Rg.sum (bs.take (i+1))<=L) :
  i+1<bs.length/\Rg.pick L bs=(i+1)+Rg.pick (L-Rg.sum (bs.take (i+1))) (bs.drop (i+1)):=by
 have e:=UQ hi;have:=Rg.pick_step hi h (by omega);rw[show L-Rg.sum (bs.take i)-bs[i]=L-Rg.sum (bs.take (i+1)) by omega]at this;exact⟨by omega,this⟩
theorem Mf{bs:List Int}{L:Int}{i:Nat}(hi:i<bs.length)(h:Rg.pick L bs=i+Rg.pick (L-Rg.sum (bs.take i)) (bs.drop i))(hlt:L<Rg.sum (bs.take (i+1))):Rg.pick L bs=i:=by
 have e:=UQ hi;exact Rg.pick_here hi h (by omega)
theorem Mg(N:Int)(n0:0<=N)(v:Value)(ao:Option Addr)(n cap:Nat)(bs:List Int)(w:World)(hr:RdI w ao n cap bs)(hok:∀v∈bs,okW v)(h64:n<=64)(hs:0<Rg.sum bs)(ht:Tk w v N) :
  Ya 305 #[.slice ao n cap,v] w (.int .i64 ((Rg.pick (N % Rg.sum bs) bs:Nat):Int)):=by
 have hlen:=hr.len;have hm:=KR n0 hs;obtain⟨hpk,-⟩:=Rg.pick_ok bs (N % Rg.sum bs) (fun v hv=>(hok v hv).1) hm.1 hm.2.1;have hn:0<n:=by omega
 obtain⟨b,o,rfl⟩:=hr.addr hn;obtain⟨tb,rfl,hc⟩:=ht;have HT:=hid (E3 (some ⟨b,o,none⟩) n cap bs w hr hok h64);have HK:=hid (Et N (Rg.sum bs) n0 hs tb w hc);have H0:Hid (Rg.sum (bs.take 0)=0):=hid rfl;have hx0:Hid (IntKind.u64.wrap (bs[0]'(by omega))=Rg.sum (bs.take (0+1))):=hid (by
  have h1:=UQ (bs:=bs) (k:=0) (by omega);rw[h1,H0.o,Int.zero_add,IntKind.wrap_u64];have:=hok _ (List.getElem_mem (show 0<bs.length by omega));unfold okW at this;omega)
 have c0:=hr.byte (k:=0) (by omega);generalize hL:N % Rg.sum bs=L at hpk HK hm⊢;have hm0:=hm.1;have hm1:=hid hm.2.1;obtain⟨x0,hxx⟩:∃x,x=bs[0]'(by omega):=⟨_,rfl⟩;rw[<- hxx]at c0 hx0;rw[Nat.add_zero]at c0;clear hL hm hc n0 hxx;have HN:=hid (And.intro hlen (And.intro hok hpk));clear hlen hok hpk hs;go_enter Tryz.func305,Tryz.ntmps305;go_wp2_with fail;refine HT.o.mono ?_;rintro e w1 ⟨rfl,rfl⟩;go_wp2_with fail;refine HK.o.mono ?_;rintro e w1 ⟨rfl,rfl⟩;clear HT HK;go_wp2_with fail;go_quiet (fail)
 have hr1:=hr.drewN nq;have hst:Yc w1 (w1.drewN nq):=(Fr.refl _ w1).drewN nq;generalize w1.drewN nq=w2 at hr1 hst⊢;clear hr c0;go_wp2_with fail;go_loopw [6,7] (fun va vu wr=>∃(i:Nat) (up:Int),i<n/\va=.int .i64 (i:Int)/\vu=.int .u64 up/\Hid (up=Rg.sum (bs.take (i+1))/\Rg.pick L bs=i+Rg.pick (L-Rg.sum (bs.take i)) (bs.drop i))/\wr=w2) (fun va _ _=>n-(intOf va).toNat);case atStart=>exact⟨0,_,by have:=HN.o.1;have:=HN.o.2.2;omega,rfl,rfl,hid ⟨hx0.o,by rw[H0.o,Int.sub_zero,List.drop_zero,Nat.zero_add]⟩,rfl⟩
 case round =>
  obtain⟨i,up,hi,rfl,rfl,HU,rfl⟩:=hrel;by_cases hle:up<=L
  ·have HS:=hid (Me (L:=L) (by have:=HN.o.1;omega) HN.o.2.2 HU.o.2 (by rw[<- HU.o.1];exact hle));have hi1:i+1<n:=by have:=HN.o.1;have:=HS.o.1;omega
   have hkl:i+1<bs.length:=HS.o.1;have c1:=hr1.byte hkl;have HA:=hid (Ey (a:=up) (x:=bs[i+1]) (y:=Rg.sum (bs.take (i+1+1))) (by rw[HU.o.1];exact Ex HN.o.2.1 (by have:=HN.o.1;omega) (i+1)) (HN.o.2.1 _ (List.getElem_mem hkl)) (by rw[HU.o.1];exact UQ hkl));obtain⟨x,hx⟩:∃x,x=bs[i+1]:=⟨_,rfl⟩;rw[<- hx]at c1 HA;clear hx hr1 hkl;go_wp2
   go_roundw;case rel=>exact⟨i+1,_,by omega,by go_num,rfl,hid ⟨HA.o,HS.o.2⟩,by trivial⟩
   case measure=>simp[intOf];omega
  ·have HH:=hid (Mf (L:=L) (by have:=HN.o.1;omega) HU.o.2 (by rw[<- HU.o.1];omega));clear hr1;go_wp2
   go_ret;rw[HH.o];exact⟨rfl,hst⟩
def ZG(bs:List Int):Int:=if 64<bs.length then 2 else if bs.all (fun v=>decide (0<=v) && decide (v<=2147483647))=false then 1 else if Rg.sum bs=0 then 40 else 0
def wgt(N:Int)(bs:List Int):Int:=if ZG bs=0 then((Rg.pick (N % Rg.sum bs) bs:Nat):Int)else 0
theorem all_ok{bs:List Int}:bs.all (fun v=>decide (0<=v) && decide (v<=2147483647))=true ↔ ∀v∈bs,okW v:=by
 simp[List.all_eq_true,okW]
theorem E5{bs:List Int}(N:Int)(h:64<bs.length):ZG bs=2/\wgt N bs=0:=by
 have e:ZG bs=2:=by simp[ZG,h]
 exact⟨e,by simp[wgt,e]⟩
theorem E6{bs:List Int}(N:Int)(h:¬64<bs.length)(hno:¬∀v∈bs,okW v):ZG bs=1/\wgt N bs=0:=by
 have e:ZG bs=1:=by
  unfold ZG;rw[if_neg h,if_pos (by rw[<- all_ok]at hno;simpa using hno)]
 exact⟨e,by simp[wgt,e]⟩
theorem E7{bs:List Int}(N:Int)(h:¬64<bs.length)(hok:∀v∈bs,okW v)(hs:Rg.sum bs=0):ZG bs=40/\wgt N bs=0:=by
 have e:ZG bs=40:=by
  unfold ZG;rw[if_neg h,if_neg (by rw[all_ok.2 hok];simp),if_pos hs]
 exact⟨e,by simp[wgt,e]⟩
theorem E8{bs:List Int}(N:Int)(h:¬64<bs.length)(hok:∀v∈bs,okW v)(hs:¬Rg.sum bs=0):ZG bs=0/\wgt N bs=((Rg.pick (N % Rg.sum bs) bs:Nat):Int):=by
 have e:ZG bs=0:=by
  unfold ZG;rw[if_neg h,if_neg (by rw[all_ok.2 hok];simp),if_neg hs]
 exact⟨e,by simp[wgt,e]⟩
theorem Mh(s f u:Int)(ao:Option Addr)(n cap:Nat)(bs:List Int)(w:World)(hr:RdI w ao n cap bs)(ht:DTab w) :
  Ya 255 #[.int .u64 s,.int .i64 f,.int .i64 u,.slice ao n cap] w (.tuple #[.int .i64 (wgt (atI s f u) bs),.int .i64 (ZG bs)]):=by
 have hlen:=hr.len;by_cases h64:64<n
 ·obtain⟨e1,e2⟩:=E5 (bs:=bs) (atI s f u) (by omega);rw[e1,e2];clear e1 e2 hlen hr;go_enter Tryz.func255,Tryz.ntmps255;go_wp2
  go_ret2
  exact⟨rfl,Fr.refl _ _⟩
 ·by_cases hok:∀v∈bs,okW v
  ·have HC:=hid (Mc ao n cap bs w hr hok);have HT:=hid (E3 ao n cap bs w hr hok (by omega));by_cases hs:Rg.sum bs=0
   ·obtain⟨e1,e2⟩:=E7 (bs:=bs) (atI s f u) (by omega) hok hs;rw[e1,e2];rw[hs]at HT;clear e1 e2 hlen hr hok hs;go_enter Tryz.func255,Tryz.ntmps255;go_wp2_with fail;refine HC.o.mono ?_;rintro e w1 ⟨rfl,rfl⟩;go_wp2_with fail;refine HT.o.mono ?_;rintro e w1 ⟨rfl,rfl⟩;go_wp2_with fail;go_ret2
    exact⟨rfl,Fr.refl _ _⟩
   ·obtain⟨e1,e2⟩:=E8 (bs:=bs) (atI s f u) (by omega) hok hs;rw[e1,e2];have hp:0<Rg.sum bs:=by have:=(KU hok (by omega)).1;omega
    have HP:=hid fun v w1 (h1:Yc w w1) ht1=>Mg (atI s f u) (UP s f u).1 v ao n cap bs w1 (hr.sT h1) hok (by omega) hp ht1;generalize hS:Rg.sum bs=S at HT hs HP⊢;clear e1 e2 hlen hr hok hp hS;go_enter Tryz.func255,Tryz.ntmps255;go_wp2_with fail;refine HC.o.mono ?_;rintro e w1 ⟨rfl,rfl⟩;go_wp2_with fail;refine HT.o.mono ?_;rintro e w1 ⟨rfl,rfl⟩;go_wp2_with fail;refine(Eo s f u _ ht).mono ?_;rintro e w2 ⟨rfl,h2⟩;go_wp2_with fail;refine(Es _ w2).mono ?_;rintro e w3 ⟨v,rfl,hv,h3⟩;go_wp2_with fail;refine(HP.o v w3 (h2.trans h3) hv).mono ?_;rintro e w4 ⟨rfl,h4⟩;go_wp2_with fail;go_ret2
    exact⟨rfl,h2.trans (h3.trans h4)⟩
  ·obtain⟨e1,e2⟩:=E6 (bs:=bs) (atI s f u) (by omega) hok;rw[e1,e2];have HC:=hid (Md ao n cap bs w hr hok);clear e1 e2 hlen hr hok;go_enter Tryz.func255,Tryz.ntmps255;go_wp2_with fail;refine HC.o.mono ?_;rintro e w1 ⟨rfl,rfl⟩;go_wp2_with fail;go_ret2
   exact⟨rfl,Fr.refl _ _⟩
theorem Mi{bs:List Int}{L x:Int}{i:Nat}(hi:i<bs.length)(hpk:Rg.pick L bs<bs.length)(h:Rg.pick L bs=i+Rg.pick x (bs.drop i))(hle:bs[i]<=x) :
  i+1<bs.length/\Rg.pick L bs=(i+1)+Rg.pick (x-bs[i]) (bs.drop (i+1)):=by
 have:=Rg.pick_step hi h (by omega);exact⟨by omega,this⟩
theorem Mj(s f u:Int)(ao:Option Addr)(n cap:Nat)(bs:List Int)(w:World)(hr:RdI w ao n cap bs) :
  Yb 135 #[.int .u64 s,.int .i64 f,.int .i64 u,.slice ao n cap] w (.tuple #[.int .i64 (wgt (atI s f u) bs),.int .i64 (ZG bs)]):=by
 have hlen:=hr.len;have hsm:=hr.small;by_cases h64:64<n
 ·obtain⟨e1,e2⟩:=E5 (bs:=bs) (atI s f u) (by omega);rw[e1,e2];clear e1 e2 hlen hr;go_enter Tryz.func135,Tryz.ntmps135;go_wp2
  go_ret2
  exact⟨rfl,rfl⟩
 ·have HL:=hid hlen;clear hlen;go_enter Tryz.func135,Tryz.ntmps135;go_wp2
  go_loopw [10,11] (fun va vi wr=>∃(k:Nat) (a:Int),k<=n/\va=.int .i64 a/\vi=.int .i64 (k:Int)/\Hid (a=Rg.sum (bs.take k)/\∀v∈bs.take k,okW v)/\wr=w) (fun _ vi _=>n-(intOf vi).toNat);case atStart=>exact⟨0,_,Nat.zero_le _,rfl,rfl,hid ⟨rfl,by simp⟩,rfl⟩
  case round =>
   obtain⟨k,a,hk,rfl,rfl,HA,rfl⟩:=hrel;by_cases hlt:k<n
   ·have hkl:k<bs.length:=by have:=HL.o;omega
    obtain⟨b,o,rfl⟩:=hr.addr (by omega);have hc:=hr.byte hkl;rcases Ew bs[k]with hw|hw
    ·have HA2:Hid (a+bs[k]=Rg.sum (bs.take (k+1))/\∀v∈bs.take (k+1),okW v):=hid ⟨by rw[HA.o.1];exact(UQ hkl).symm,by
      intro v hv;rw[List.take_succ_eq_append_getElem hkl]at hv;rcases List.mem_append.1 hv with hv|hv
      ·exact HA.o.2 v hv
      ·simp at hv;rw[hv];exact hw⟩
     obtain⟨hx0,hx1⟩:=hw;obtain⟨ha0,ha1⟩:0<=a/\a<=137438953408:=by
      rw[HA.o.1];exact KU HA.o.2 (by simp;omega)
     obtain⟨x,hx⟩:∃x,x=bs[k]:=⟨_,rfl⟩;rw[<- hx]at hc HA2 hx0 hx1;clear hx hr HA hkl;go_wp2
     go_roundw;case rel=>exact⟨k+1,_,by omega,rfl,by go_num,HA2,by trivial⟩
     case measure=>simp[intOf];omega
    ·obtain⟨e1,e2⟩:=E6 (bs:=bs) (atI s f u) (by have:=HL.o;omega) (fun h=>hw (h _ (List.getElem_mem hkl)));have HE:=hid (And.intro e1 e2);obtain⟨x,hx⟩:∃x,x=bs[k]:=⟨_,rfl⟩;rw[<- hx]at hc hw;clear hx hr HA e1 e2 hkl;by_cases hx0:x<0
     ·clear hw;go_wp2
      go_ret2
      rw[HE.o.1,HE.o.2];exact⟨rfl,rfl⟩
     ·have hx1:2147483647<x:=by unfold okW at hw;omega
      clear hw;go_wp2
      go_ret2
      rw[HE.o.1,HE.o.2];exact⟨rfl,rfl⟩
   ·rw[List.take_of_length_le (by have:=HL.o;omega)]at HA;obtain⟨ha,hok⟩:=HA.o;by_cases hs:Rg.sum bs=0
    ·obtain⟨e1,e2⟩:=E7 (bs:=bs) (atI s f u) (by have:=HL.o;omega) hok hs;have HE:=hid (And.intro e1 e2);rw[hs]at ha;subst ha;clear hok hs HA e1 e2 hr;go_wp2
     go_ret2
     rw[HE.o.1,HE.o.2];exact⟨rfl,rfl⟩
    ·obtain⟨e1,e2⟩:=E8 (bs:=bs) (atI s f u) (by have:=HL.o;omega) hok hs;have HE:=hid (And.intro e1 e2);have hi:=KU hok (by have:=HL.o;omega);have n0:=(UP s f u).1;rw[<- ha]at hs hi HE;have hp:0<a:=by omega
     have hm:=KR n0 hp;have hpk:Rg.pick (atI s f u % a) bs<bs.length:=by
      have hm':=hm;rw[ha]at hm';obtain⟨hpk,-⟩:=Rg.pick_ok bs (atI s f u % Rg.sum bs) (fun v hv=>(hok v hv).1) hm'.1 hm'.2.1;rw[<- ha]at hpk;exact hpk
     have HB:=hid (show wrap64 ((atI s f u).tmod a)=atI s f u % a by
      have:=Eu n0 (UP s f u).2 hp (by omega);rwa [show IntKind.u64.wrap a=a by rw[IntKind.wrap_u64];omega]at this)
     have hz:=Ev hp (by omega);have HN:=hid (And.intro hok hpk);obtain⟨b,o,rfl⟩:=hr.addr (by have:=HL.o;omega);have hL0:=hm.1;have hL1:=hm.2.1;have ha1:=hi.2;generalize hLL:atI s f u % a=L at HB HN HE hL0 hL1;clear hok HA e1 e2 hpk hi hm hp n0 hLL ha;go_wp2_with fail;refine(Ep s f u _).mono ?_;rintro e w1 ⟨rfl,rfl⟩;go_wp2_with fail;go_loopw [12,13] (fun vx vi wr=>∃(i:Nat) (x:Int),i<n/\vx=.int .i64 x/\vi=.int .i64 (i:Int)/\0<=x/\x<=137438953408/\Hid (Rg.pick L bs=i+Rg.pick x (bs.drop i))/\wr=w1) (fun _ vi _=>n-(intOf vi).toNat);case atStart=>exact⟨0,L,by have:=HL.o;have:=HN.o.2;omega,by rw[HB.o],rfl,hL0,by omega,hid (by rw[List.drop_zero,Nat.zero_add]),rfl⟩
     case round =>
      obtain⟨i,x,hi,rfl,rfl,x0,x1,HX,rfl⟩:=hrel;have hkl:i<bs.length:=by have:=HL.o;omega
      have hc:=hr.byte hkl;by_cases hle:bs[i]<=x
      ·have HS:=hid (Mi (L:=L) hkl HN.o.2 HX.o hle);have hi1:i+1<n:=by have:=HL.o;have:=HS.o.1;omega
       have hy:=HN.o.1 _ (List.getElem_mem hkl);obtain⟨y0,y1⟩:=hy;obtain⟨y,hyy⟩:∃y,y=bs[i]:=⟨_,rfl⟩;rw[<- hyy]at hc HS y0 y1 hle;clear hyy hr hkl hs hz HX;go_wp2
       go_roundw;case rel=>exact⟨i+1,_,by omega,rfl,by go_num,by omega,by omega,hid HS.o.2,by trivial⟩
       case measure=>simp[intOf];omega
      ·have HH:=hid (Rg.pick_here hkl HX.o (by omega));obtain⟨y,hyy⟩:∃y,y=bs[i]:=⟨_,rfl⟩;rw[<- hyy]at hc hle;clear hyy hr hkl hs hz HX;go_wp2
       go_ret2
       rw[HE.o.1,HE.o.2,HH.o];exact⟨rfl,rfl⟩
theorem OwI.head{e:TypeId}{w:World}{ao:Option Addr}{n cap:Nat}{bs:List Int}(h:OwI e w ao n cap bs)(hn:0<n):∃g,ao=some ⟨g,0,none⟩:=by
 obtain⟨b,o,rfl⟩:=h.rd.addr hn;obtain⟨h0,_⟩:=h.row _ rfl;simp at h0;subst h0;exact⟨b,rfl⟩
theorem OwI.one(e:TypeId)(wr:World)(x:Int):OwI e (wr.alloc (.cells #[.int .i64 x] e)) (some ⟨wr.heap.size,0,none⟩) 1 1 [x]:=
 OwI.fresh wr _ 1 1 [x] rfl (Nat.le_refl _) (by unfold maxLen;omega) rfl (fun j hj=>by
  simp at hj;subst hj;rfl)
theorem GP{w wr w1:World}{o:Obj}{ao ao':Option Addr}(hs:Yc w wr)(ha:∀a,ao=some a->w.heap.size<=a.block)(hf:Fr (fun k=>∃a,ao=some a/\a.block=k) (wr.alloc o) w1)
  (hn:∀a,ao'=some a->ao=some a\/(wr.alloc o).heap.size<=a.block):Yc w w1/\∀a,ao'=some a->w.heap.size<=a.block:=by
 refine⟨Fr.trans (Fr.alloc hs o) hf ?_,fun a h=>?_⟩
 ·rintro k hk ⟨a,h1,rfl⟩;have:=ha a h1;omega
 ·rcases hn a h with h1|h1
  ·exact ha a h1
  ·have:=hs.size;simp at h1;omega
end
end Go.Proofs.YtcgmohldcokccaaGreatDoor
