import Derived.Test.YtcgmohldcokccaaGreatDoorXR02
import Derived.Test.YtcgmohldcokccaaGreatDoorXR27
set_option linter.unusedVariables false
set_option maxHeartbeats 2000000
set_option maxRecDepth 100000
namespace Go.Proofs.YtcgmohldcokccaaGreatDoor
section
open Pu Gp Ap
/-! ### strings.IndexByte -/
theorem FQ(s:ByteArray)(b:UInt8):∀(f i:Nat),i+f=s.size->XX s (b.toNat:Int) f i=if Lib.indexByte (s.data.toList.drop i) b=-1 then -1 else(i:Int)+Lib.indexByte (s.data.toList.drop i) b
 | 0,i,h=>by
  rw[List.drop_eq_nil_of_le (by rw[Array.length_toList];show s.size<=i;omega)];rfl
 | f+1,i,h=>by
  have hl:i<s.data.toList.length:=by rw[Array.length_toList];show i<s.size;omega
  have ih:=FQ s b f (i+1) (by omega);have ge:=Lib.indexByte_ge (s.data.toList.drop (i+1)) b;rw[List.drop_eq_getElem_cons hl,XX,Lib.indexByte];have e:byt s i=((s.data.toList[i]).toNat:Int):=by
   unfold byt;rw[List.getD_eq_getElem?_getD,List.getElem?_eq_getElem hl];rfl
  obtain⟨c,ec⟩:∃c,s.data.toList[i]=c:=⟨_,rfl⟩;rw[ec]at e⊢;rw[e];obtain⟨J,eJ⟩:∃J,Lib.indexByte (s.data.toList.drop (i+1)) b=J:=⟨_,rfl⟩;rw[eJ]at ih ge⊢;by_cases hb:c=b
  ·subst hb;rw[if_pos rfl,beq_self_eq_true];simp
  ·have h1:¬((c.toNat:Int)=(b.toNat:Int)):=fun k=>hb (UInt8.toNat_inj.1 (by omega));have hbq:(c == b)=false:=by simpa using hb
   rw[if_neg h1,ih,hbq];simp only[Bool.false_eq_true,if_false];by_cases k:J=-1
   ·rw[if_pos k,beq_iff_eq.2 k];simp
   ·have kq:(J == -1)=false:=by simpa using k
    rw[if_neg k,kq];simp only[Bool.false_eq_true,if_false];rw[if_neg (by omega)];omega
theorem PV(s:ByteArray)(c:Int)(h0:0<=c)(h1:c<=255):Lib.indexByte s.data.toList c.toNat.toUInt8=fnd s c 0:=by
 have h:=FQ s c.toNat.toUInt8 s.size 0 (by omega);have e:(c.toNat.toUInt8.toNat:Int)=c:=by
  rw[UInt8.toNat_ofNat_of_lt' (by show c.toNat<256;omega)];omega
 rw[e]at h;have ge:=Lib.indexByte_ge s.data.toList c.toNat.toUInt8;unfold fnd;rw[show s.size-0=s.size from rfl,h,List.drop_zero];split<;>omega
/-! ### How many starts -/
def YN(s:ByteArray)(d:Int):Nat->Nat
 | 0=>0
 | n+1=>YN s d n+if byt s n=d then 1 else 0
def Z4(s:ByteArray):Nat->Nat
 | 0=>0
 | n+1=>Z4 s n+if(49<=byt s n/\byt s n<=54)then 1 else 0
theorem FR(s:ByteArray):∀n,Z4 s n=YN s 49 n+YN s 50 n+YN s 51 n+YN s 52 n+YN s 53 n+YN s 54 n
 | 0=>rfl
 | n+1=>by
  rw[Z4,FR s n];simp only[YN];repeat' split
  all_goals omega
theorem DN(s:ByteArray):∀n,Z4 s n<=n
 | 0=>Nat.le_refl _
 | n+1=>by
  have:=DN s n;rw[Z4];split<;>omega
theorem DO(s:ByteArray)(d:Int):∀{n m:Nat},n<=m->YN s d n<=YN s d m
  | n,0,h=>by obtain rfl:n=0:=(by omega);exact Nat.le_refl _
  | n,m+1,h=>by
    by_cases e:n=m+1
    · subst e;exact Nat.le_refl _
    · have:=DO s d (n:=n) (m:=m) (by omega)
      rw[YN];omega
theorem DR{s:ByteArray}{d:Int}{i m:Nat}(hi:i<m)(h:byt s i=d):1<=YN s d m:=by
 have:=DO s d (show i+1<=m by omega);rw[YN,if_pos h]at this;omega
theorem PW{s:ByteArray}{d:Int}{i j m:Nat}(hij:i<j)(hj:j<m)(h:byt s i=d)(k:byt s j=d):2<=YN s d m:=by
 have a:=DO s d (show j+1<=m by omega);rw[YN,if_pos k]at a;have:=DR hij h;omega
theorem DS{s:ByteArray}{d:Int}:∀{m:Nat},(∀i,i<m->byt s i≠d)->YN s d m=0
 | 0,_=>rfl
 | m+1,h=>by rw[YN,if_neg (h m (by omega)),DS (fun i hi=>h i (by omega))]
theorem FT{s:ByteArray}{d:Int}:∀{m:Nat},(∀i j,i<j->j<m->byt s i=d->byt s j≠d)->YN s d m<=1
 | 0,_=>by simp[YN]
 | m+1,h=>by
  rw[YN];by_cases k:byt s m=d
  ·rw[DS (m:=m) (fun i hi e=>h i m hi (by omega) e k),if_pos k];omega
  ·rw[if_neg k];have:=FT (m:=m) (fun i j h1 h2=>h i j h1 (by omega));omega
theorem DT{s:ByteArray}:∀(f n k:Nat),n<=k->k<ZO s f n->0<=fnd s (49+(k:Int)) 0
 | 0,n,k,h1,h2=>by simp[ZO]at h2;omega
 | f+1,n,k,h1,h2=>by
  rw[ZO]at h2;by_cases c:0<=fnd s (49+(n:Int)) 0
  ·rw[if_pos c]at h2;by_cases e:k=n
   ·subst e;exact c
   ·exact DT f (n+1) k (by omega) h2
  ·rw[if_neg c]at h2;omega
theorem PX{s:ByteArray}{k:Nat}(h:k<mny s):∃i,i<s.size/\byt s i=49+(k:Int):=by
 have c:=DT 6 0 k (by omega) h;rcases UH s (49+(k:Int)) 0 (by omega)with⟨e,_⟩|⟨i,_,_,h2,h3,_⟩
 ·omega
 ·exact⟨i,h2,h3⟩
theorem QB(s:ByteArray):mny s<=6:=by have:=GE s 6 0;unfold mny;omega
def once(n:Nat)(s:ByteArray):Prop:=∀i,i<s.size->49<=byt s i->byt s i<=54->byt s i-48<=(n:Int)/\fnd s (byt s i) (i+1)<0
theorem FU{s:ByteArray}{c:Int}{i:Nat}(hi:i<=s.size):fnd s c i<0 ↔ ∀j,i<=j->j<s.size->byt s j≠c:=by
 rcases UH s c i hi with⟨e,h⟩|⟨k,e,h1,h2,h3,_⟩
 ·rw[e];exact⟨fun _=>h,fun _=>by omega⟩
 ·rw[e];exact⟨fun h=>by omega,fun h=>absurd h3 (h k h1 h2)⟩
theorem PY(s:ByteArray):Z4 s s.size=mny s ↔ once (mny s) s:=by
 have six:=QB s;have found:∀k:Nat,k<mny s->1<=YN s (49+(k:Int)) s.size:=fun k hk=>by
  obtain⟨i,hi,e⟩:=PX hk;exact DR hi e
 have f0:0<mny s->1<=YN s 49 s.size:=fun h=>by simpa using found 0 h
 have f1:1<mny s->1<=YN s 50 s.size:=fun h=>by simpa using found 1 h
 have f2:2<mny s->1<=YN s 51 s.size:=fun h=>by simpa using found 2 h
 have f3:3<mny s->1<=YN s 52 s.size:=fun h=>by simpa using found 3 h
 have f4:4<mny s->1<=YN s 53 s.size:=fun h=>by simpa using found 4 h
 have f5:5<mny s->1<=YN s 54 s.size:=fun h=>by simpa using found 5 h
 rw[FR];obtain⟨n,en⟩:∃n,mny s=n:=⟨_,rfl⟩;rw[en]at six f0 f1 f2 f3 f4 f5⊢;constructor
 ·intro h i hi h1 h2;refine⟨?_,?_⟩
  ·have d:=DR (d:=byt s i) hi rfl;rcases(show byt s i=49\/byt s i=50\/byt s i=51\/byt s i=52\/byt s i=53\/byt s i=54 by omega)with e|e|e|e|e|e<;>rw[e]at d⊢<;>omega
  ·refine(FU (by omega)).2 fun j hj1 hj2 e=>?_;have d:=PW (d:=byt s i) (show i<j by omega) hj2 rfl e;rcases(show byt s i=49\/byt s i=50\/byt s i=51\/byt s i=52\/byt s i=53\/byt s i=54 by omega)with e|e|e|e|e|e<;>rw[e]at d<;>omega
 ·intro h;have le1:∀d:Int,49<=d->d<=54->YN s d s.size<=1:=fun d h1 h2=>FT fun i j hij hj ei ej=>by
   have:=(h i (by omega) (by omega) (by omega)).2;exact(FU (by omega)).1 this j (by omega) hj (by rw[ej,ei])
  have zero:∀d:Int,49<=d->d<=54->(n:Int)<d-48->YN s d s.size=0:=fun d h1 h2 h3=>DS fun i hi e=>by
   have:=(h i hi (by omega) (by omega)).1;omega
  have a0:=le1 49 (by omega) (by omega);have a1:=le1 50 (by omega) (by omega);have a2:=le1 51 (by omega) (by omega);have a3:=le1 52 (by omega) (by omega);have a4:=le1 53 (by omega) (by omega);have a5:=le1 54 (by omega) (by omega);have z0:=zero 49 (by omega) (by omega);have z1:=zero 50 (by omega) (by omega);have z2:=zero 51 (by omega) (by omega);have z3:=zero 52 (by omega) (by omega);have z4:=zero 53 (by omega) (by omega);have z5:=zero 54 (by omega) (by omega);omega
theorem FV{n:Nat}{I:Nat->Bool}{s:ByteArray}:∀{k:Nat},Zf n I s k=true ↔ ∀i,i<k->okS n I s i=true
 | 0=>⟨fun _ i h=>by omega,fun _=>rfl⟩
 | k+1=>by
  rw[Zf,Bool.and_eq_true,FV];constructor
  ·rintro⟨h1,h2⟩ i hi;by_cases e:i=k
   ·subst e;exact h2
   ·exact h1 i (by omega)
  ·intro h;exact⟨fun i hi=>h i (by omega),h k (by omega)⟩
def ZH(I:Nat->Bool)(s:ByteArray):Nat->Bool
 | 0=>true
 | n+1=>ZH I s n && (!((decide (49<=byt s n) && decide (byt s n<=54)) || byt s n == 42) || I n)
theorem FW{I:Nat->Bool}{s:ByteArray}:∀{n m:Nat},n<=m->ZH I s n=false->ZH I s m=false
  | n,0,h,k=>by obtain rfl:n=0:=(by omega);exact k
  | n,m+1,h,k=>by
    by_cases e:n=m+1
    · subst e;exact k
    · rw[ZH,FW (n:=n) (m:=m) (by omega) k];rfl
theorem FX{I:Nat->Bool}{s:ByteArray}:∀{n:Nat},ZH I s n=true ↔ ∀i,i<n->(((49<=byt s i/\byt s i<=54)\/byt s i=42)->I i=true)
 | 0=>⟨fun _ i h=>by omega,fun _=>rfl⟩
 | n+1=>by
  have e:(!((decide (49<=byt s n) && decide (byt s n<=54)) || byt s n == 42) || I n)=true ↔ (((49<=byt s n/\byt s n<=54)\/byt s n=42)->I n=true):=by
   constructor
   ·intro h k;rcases k with k|k
    ·simpa[k]using h
    ·simpa[k]using h
   ·intro h;by_cases k:(49<=byt s n/\byt s n<=54)\/byt s n=42
    ·rw[h k];simp
    ·have:((decide (49<=byt s n) && decide (byt s n<=54)) || byt s n == 42)=false:=by
      simp only[not_or,not_and]at k;simp only[Bool.or_eq_false_iff,Bool.and_eq_false_iff,decide_eq_false_iff_not,beq_eq_false_iff_ne];omega
     rw[this];rfl
  rw[ZH,Bool.and_eq_true,FX,e];constructor
  ·rintro⟨h1,h2⟩ i hi;by_cases e:i=n
   ·subst e;exact h2
   ·exact h1 i (by omega)
  ·intro h;exact⟨fun i hi=>h i (by omega),h n (by omega)⟩
theorem FY{C R:Int}{s:ByteArray}(h:YL C R s=true)(I:Nat->Bool):Zf (mny s) I s s.size=(decide (Z4 s s.size=mny s) && ZH I s s.size):=by
 rw[Bool.eq_iff_iff,Bool.and_eq_true,decide_eq_true_iff,PY,FX,FV];constructor
 ·intro k;refine⟨fun i hi h1 h2=>?_,fun i hi hm=>?_⟩
  ·have:=k i hi;unfold okS at this;simp only[Bool.or_eq_true,Bool.and_eq_true,beq_iff_eq,decide_eq_true_eq]at this;omega
  ·have:=k i hi;unfold okS at this;simp only[Bool.or_eq_true,Bool.and_eq_true,beq_iff_eq,decide_eq_true_eq]at this;rcases this with e|e|e
   ·omega
   ·omega
   ·exact e.1
 ·rintro⟨k1,k2⟩ i hi;have g:=BI h hi;unfold okS;simp only[Bool.or_eq_true,Bool.and_eq_true,beq_iff_eq,decide_eq_true_eq];rcases g with g|g|g|g
  ·exact .inl g
  ·exact .inr (.inl g)
  ·exact .inr (.inr ⟨k2 i hi (.inr g),.inl g⟩)
  ·exact .inr (.inr ⟨k2 i hi (.inl g),.inr (k1 i hi g.1 g.2)⟩)
/-! ### Which cells one comes to -/
def nbr(C i:Nat):Nat->Nat
 | 0=>i-C
 | 1=>i-1
 | 2=>i+1
 | _=>i+C
theorem DU{C R:Nat}{s:ByteArray}(h:YL (C:Int) (R:Int) s=true){i:Nat}(hi:i<s.size)(hf:byt s i≠35):C<=i/\i+C<s.size:=by
 obtain⟨q1,q2,q3,q4,q5,q6⟩:=Xs h;unfold YL at h;simp only[Bool.and_eq_true]at h;have g:=KH h.2.1 i hi;unfold Xr at g;have hb:(byt s i == 35)=false:=by simpa using hf
 rw[hb,Bool.false_or,Bool.and_eq_true]at g;have ne:XY (C:Int) (R:Int) i=false:=by simpa using g.1
 unfold XY at ne;have e2:(i:Int) / (C:Int)=((i / C:Nat):Int):=(Int.natCast_ediv i C).symm;rw[e2]at ne;simp only[Bool.or_eq_false_iff,decide_eq_false_iff_not]at ne;obtain⟨⟨⟨n1,n2⟩,n3⟩,n4⟩:=ne;have q7:s.size=C*R:=by exact_mod_cast q5
 have d1:i / C<R:=by
  rw[Nat.div_lt_iff_lt_mul (by omega),Nat.mul_comm R C,<- q7];exact hi
 have e:=Nat.div_add_mod i C;have m1:i % C<C:=Nat.mod_lt _ (by omega);obtain⟨D,eD⟩:∃D,i / C=D:=⟨_,rfl⟩;obtain⟨M,eM⟩:∃M,i % C=M:=⟨_,rfl⟩;rw[eD]at n2 n4 d1 e;rw[eM]at m1 e;have l1:C*1<=C*D:=Nat.mul_le_mul_left C (by omega);have l2:C*(D+2)<=C*R:=Nat.mul_le_mul_left C (by omega);rw[Nat.mul_add]at l2;omega
structure Wk (C:Nat) (s:ByteArray) (f:Nat) (I:Nat->Bool) (W:List Int) (x:Option Nat):Prop where
 from_:I f=true
 in_:∀i,I i=true->i<s.size/\byt s i≠35/\Rch C s.size s f i
 work:∀v∈W,∃i:Nat,v=(i:Int)/\I i=true
 done:∀i,I i=true->(i:Int)∈W\/x=some i \/ ∀k,k<4->byt s (nbr C i k)≠35->I (nbr C i k)=true
theorem Wk.start{C:Nat}{s:ByteArray}{f:Nat}(hf:f<s.size)(h:byt s f≠35):Wk C s f (upd (fun _=>false) f) [(f:Int)] none:=by
 have only:∀i,upd (fun _=>false) f i=true->i=f:=fun i hi=>by
  by_cases e:i=f
  ·exact e
  ·simp[upd,e]at hi
 refine⟨by simp[upd],fun i hi=>?_,fun v hv=>?_,fun i hi=>?_⟩
 ·rw[only i hi];exact⟨hf,h,KG C s.size s f⟩
 ·rw[List.mem_singleton.1 hv];exact⟨f,rfl,by simp[upd]⟩
 ·rw[only i hi];exact .inl (by simp)
theorem Wk.pop{C:Nat}{s:ByteArray}{f i:Nat}{I:Nat->Bool}{W:List Int}(h:Wk C s f I (W ++ [(i:Int)]) none):Wk C s f I W (some i)/\I i=true:=by
 obtain⟨j,e,hj⟩:=h.work (i:Int) (by simp);have:j=i:=by omega
 subst this;refine⟨⟨h.from_,h.in_,fun v hv=>h.work v (by simp[hv]),fun k hk=>?_⟩,hj⟩;rcases h.done k hk with m|m|m
 ·rcases List.mem_append.1 m with m|m
  ·exact .inl m
  ·have:k=j:=by have:=List.mem_singleton.1 m;omega
   exact .inr (.inl (by rw[this]))
 ·cases m
 ·exact .inr (.inr m)
theorem Wk.shut{C:Nat}{s:ByteArray}{f i:Nat}{I:Nat->Bool}{W:List Int}(h:Wk C s f I W (some i))(hd:∀k,k<4->byt s (nbr C i k)≠35->I (nbr C i k)=true):Wk C s f I W none:=by
 refine⟨h.from_,h.in_,h.work,fun k hk=>?_⟩;rcases h.done k hk with m|m|m
 ·exact .inl m
 ·cases m;exact .inr (.inr hd)
 ·exact .inr (.inr m)
theorem PZ{C i k:Nat}(hC:1<=C)(hi:C<=i){I:Nat->Bool}(h:I i=true):nbB C I (nbr C i k)=true:=by
 unfold nbB;match k with
 | 0=>simp only[nbr];rw[show i-C+C=i by omega,h];simp
 | 1=>simp only[nbr];rw[show i-1+1=i by omega,h];simp
 | 2=>simp only[nbr];rw[show i+1-1=i by omega,h];simp
 | k+3=>simp only[nbr];rw[show i+C-C=i by omega,h];simp
theorem Ca{C i k N:Nat}(hC:1<=C)(hi:C<=i)(h2:i+C<N):nbr C i k<N:=by
 match k with
 | 0=>simp only[nbr];omega
 | 1=>simp only[nbr];omega
 | 2=>simp only[nbr];omega
 | k+3=>simp only[nbr];omega
theorem Wk.push{C R:Nat}{s:ByteArray}{f i k:Nat}{I:Nat->Bool}{W:List Int}(hform:YL (C:Int) (R:Int) s=true)(h:Wk C s f I W (some i))(hi:I i=true)(hf:byt s (nbr C i k)≠35) :
  Wk C s f (upd I (nbr C i k)) (W ++ [((nbr C i k:Nat):Int)]) (some i):=by
 obtain⟨q1,_⟩:=Xs hform;obtain⟨b1,b2,b3⟩:=h.in_ i hi;obtain⟨l1,l2⟩:=DU hform b1 b2;have hn:=Ca (C:=C) (i:=i) (k:=k) (by omega) l1 l2;obtain⟨m1,m2⟩:=DU hform hn hf;have up:∀j,I j=true->upd I (nbr C i k) j=true:=fun j hj=>by
  unfold upd;split
  ·rfl
  ·exact hj
 have dn:∀j,upd I (nbr C i k) j=true->j=nbr C i k\/I j=true:=fun j hj=>by
  unfold upd at hj;by_cases e:j=nbr C i k
  ·exact .inl e
  ·rw[if_neg e]at hj;exact .inr hj
 refine⟨up f h.from_,fun j hj=>?_,fun v hv=>?_,fun j hj=>?_⟩
 ·rcases dn j hj with e|e
  ·rw[e];exact⟨hn,hf,UI (I:=I) (fun j hj=>(h.in_ j hj).2.2) m1 m2 hf (PZ (by omega) l1 hi)⟩
  ·exact h.in_ j e
 ·rcases List.mem_append.1 hv with m|m
  ·obtain⟨j,e,hj⟩:=h.work v m;exact⟨j,e,up j hj⟩
  ·exact⟨nbr C i k,List.mem_singleton.1 m,by simp[upd]⟩
 ·rcases dn j hj with e|e
  ·exact .inl (by rw[e];simp)
  ·rcases h.done j e with m|m|m
   ·exact .inl (by simp[m])
   ·exact .inr (.inl m)
   ·exact .inr (.inr fun k' h1 h2=>up _ (m k' h1 h2))
theorem Wk.isR{C:Nat}{s:ByteArray}{f:Nat}{I:Nat->Bool}(hC:1<=C)(h:Wk C s f I [] none):IsR C s.size s f I:=by
 refine⟨h.from_,fun i h1 h2 h3 h4=>?_,fun i hi=>(h.in_ i hi).2.2⟩;have cl:∀j,I j=true->∀k,k<4->byt s (nbr C j k)≠35->I (nbr C j k)=true:=fun j hj=>by
  rcases h.done j hj with m|m|m
  ·cases m
  ·cases m
  ·exact m
 unfold nbB at h4;simp only[Bool.or_eq_true]at h4;rcases h4 with e|e|e|e
 ·have:=cl _ e 2 (by omega);simp only[nbr]at this;rw[show i-1+1=i by omega]at this;exact this h3
 ·have:=cl _ e 1 (by omega);simp only[nbr]at this;rw[show i+1-1=i by omega]at this;exact this h3
 ·have:=cl _ e 3 (by omega);simp only[nbr]at this;rw[show i-C+C=i by omega]at this;exact this h3
 ·have:=cl _ e 0 (by omega);simp only[nbr]at this;rw[show i+C-C=i by omega]at this;exact this h3
end
section
open Go.RowKit
open Pu Gp Ap
theorem Cc(n l m:Int)(w:World):Yb 152 #[.int .i64 n,.int .i64 l,.int .i64 m] w (.bool (decide (l<=n) && decide (n<=m))):=by
 by_cases h:l<=n
 ·rw[decide_eq_true h,Bool.true_and];go_enter Tryz.func152,Tryz.ntmps152;go_wp2
  go_ret;exact⟨rfl,rfl⟩
 ·rw[decide_eq_false h,Bool.false_and];have h':decide (l<=n)=false:=decide_eq_false h;go_enter Tryz.func152,Tryz.ntmps152;go_wp2
  go_ret;exact⟨rfl,rfl⟩
def Vr(c:Int):Bool:=decide (49<=c) && decide (c<=54)
theorem Ta(c:Int)(w:World):Yb 212 #[.int .u8 c] w (.bool (Vr c)):=by
 unfold Vr;by_cases h:49<=c
 ·rw[decide_eq_true h,Bool.true_and];go_enter Tryz.func212,Tryz.ntmps212;go_wp2
  go_ret;exact⟨rfl,rfl⟩
 ·rw[decide_eq_false h,Bool.false_and];have h':decide (49<=c)=false:=decide_eq_false h;go_enter Tryz.func212,Tryz.ntmps212;go_wp2
  go_ret;exact⟨rfl,rfl⟩
def VJ(c:Int):Bool:=Vr c || c == 42
theorem Cd(c:Int)(w:World):Yb 158 #[.int .u8 c] w (.bool (VJ c)):=by
 unfold VJ;have h:=Ta c;obtain⟨b,eb⟩:∃b,Vr c=b:=⟨_,rfl⟩;rw[eb]at h⊢;clear eb;have H:=hid h;clear h;cases b with
 | true =>
  rw[Bool.true_or];go_enter Tryz.func158,Tryz.ntmps158;go_wp2_with (go_at_call 212;refine(H.o _).mono ?_;rintro e w' ⟨he,hw⟩;rw[he,hw];clear he hw w');go_ret;exact⟨rfl,rfl⟩
 | false =>
  rw[Bool.false_or];go_enter Tryz.func158,Tryz.ntmps158;go_wp2_with (go_at_call 212;refine(H.o _).mono ?_;rintro e w' ⟨he,hw⟩;rw[he,hw];clear he hw w');go_ret;exact⟨rfl,rfl⟩
theorem QC(c:Int){t:Bool}(h:VJ c=t)(w:World):Yb 158 #[.int .u8 c] w (.bool t):=by
 rw[<- h];exact Cd c w
theorem Ce(s:ByteArray)(hz:s.size<=281474976710656)(w:World) :
  Yb 153 #[.string s] w (.bool (ZN s s.size)):=by
 obtain⟨T,eT⟩:∃T,T=ZN s s.size:=⟨_,rfl⟩;have HT:=hid eT;rw[<- eT];clear eT;go_enter Tryz.func153,Tryz.ntmps153;go_wp2_with fail;go_loop [6] (fun v=>∃j:Nat,j<=s.size/\v=.int .i64 (j:Int)/\ZN s j=true) (fun v=>s.size-(intOf v).toNat);case atStart=>exact⟨0,by omega,rfl,rfl⟩
 case round =>
  obtain⟨j,hj,rfl,hf⟩:=hrel;by_cases hlt:j<s.size
  ·have e:=ZJ s j hlt;obtain⟨b,eb⟩:∃b,byt s j=b:=⟨_,rfl⟩;rw[eb]at e;have HX:=hid (show ZN s (j+1)=okC b by rw[ZN,hf,eb];rfl);have HY:=hid (show okC b=false->false=T from fun h=>by
    rw[HT.o];exact(BD (n:=j+1) (by omega) (HX.o.trans h)).symm)
   clear hf eb;have hw:b=35\/b=46\/((b != 35)=true/\(b != 46)=true):=by
    by_cases h1:b=35
    ·exact .inl h1
    by_cases h2:b=46
    ·exact .inr (.inl h2)
    exact .inr (.inr ⟨by simpa using h1,by simpa using h2⟩)
   rcases hw with rfl|rfl|⟨h1,h2⟩
   ·go_wp2_with fail;go_round
    case rel=>exact⟨j+1,by omega,by go_num,HX.o⟩
    case measure=>simp[intOf];omega
   ·go_wp2_with fail;go_round
    case rel=>exact⟨j+1,by omega,by go_num,HX.o⟩
    case measure=>simp[intOf];omega
   ·have HO:=hid (show okC b=VJ b by
     unfold okC VJ Vr;rw[show(b == 35)=false by simpa using h1,show(b == 46)=false by simpa using h2,Bool.false_or,Bool.false_or,Bool.or_comm])
    cases hm:VJ b with
    | true =>
     have HM:=hid (fun u=>QC b hm u);have HN:=hid (HX.o.trans (HO.o.trans hm));clear hm HX HY HO;go_wp2_with (go_at_call 158;refine(HM.o _).mono ?_;rintro e w' ⟨he,hw⟩;rw[he,hw];clear he hw w');go_round
     case rel=>exact⟨j+1,by omega,by go_num,HN.o⟩
     case measure=>simp[intOf];omega
    | false =>
     have HM:=hid (fun u=>QC b hm u);have HN:=hid (HY.o (HO.o.trans hm));clear hm HX HY HO;go_wp2_with (go_at_call 158;refine(HM.o _).mono ?_;rintro e w' ⟨he,hw⟩;rw[he,hw];clear he hw w');go_ret;exact⟨ZK HN.o,rfl⟩
  ·have HF:=hid (show true=T by rw[HT.o,<- hf,show j=s.size by omega]);clear hf;go_wp2_with fail;go_ret;exact⟨ZK HF.o,rfl⟩
def Xe(C R:Int)(s:ByteArray):Nat->Bool
 | 0=>true
 | n+1=>Xe C R s n && (Yg C R s (n:Int) 0 && Yg C R s (n:Int) (R-1))
def Xf(C R:Int)(s:ByteArray):Nat->Bool
 | 0=>true
 | n+1=>Xf C R s n && (Yg C R s 0 (n:Int) && Yg C R s (C-1) (n:Int))
theorem Tb{C R:Int}{s:ByteArray}:∀{n m:Nat},n<=m->Xe C R s n=false->Xe C R s m=false
  | n,0,h,k=>by obtain rfl:n=0:=(by omega);exact k
  | n,m+1,h,k=>by
    by_cases e:n=m+1
    · subst e;exact k
    · rw[Xe,Tb (n:=n) (m:=m) (by omega) k];rfl
theorem Tc{C R:Int}{s:ByteArray}:∀{n m:Nat},n<=m->Xf C R s n=false->Xf C R s m=false
  | n,0,h,k=>by obtain rfl:n=0:=(by omega);exact k
  | n,m+1,h,k=>by
    by_cases e:n=m+1
    · subst e;exact k
    · rw[Xf,Tc (n:=n) (m:=m) (by omega) k];rfl
theorem cols_iff{C R:Int}{s:ByteArray}:∀{n:Nat},Xe C R s n=true ↔ ∀i:Nat,i<n->Yg C R s (i:Int) 0=true/\Yg C R s (i:Int) (R-1)=true
 | 0=>⟨fun _ i h=>by omega,fun _=>rfl⟩
 | n+1=>by
  rw[Xe,Bool.and_eq_true,Bool.and_eq_true,cols_iff];constructor
  ·rintro⟨h1,h2⟩ i hi;by_cases e:i=n
   ·subst e;exact h2
   ·exact h1 i (by omega)
  ·intro h;exact⟨fun i hi=>h i (by omega),h n (by omega)⟩
theorem rows_iff{C R:Int}{s:ByteArray}:∀{n:Nat},Xf C R s n=true ↔ ∀i:Nat,i<n->Yg C R s 0 (i:Int)=true/\Yg C R s (C-1) (i:Int)=true
 | 0=>⟨fun _ i h=>by omega,fun _=>rfl⟩
 | n+1=>by
  rw[Xf,Bool.and_eq_true,Bool.and_eq_true,rows_iff];constructor
  ·rintro⟨h1,h2⟩ i hi;by_cases e:i=n
   ·subst e;exact h2
   ·exact h1 i (by omega)
  ·intro h;exact⟨fun i hi=>h i (by omega),h n (by omega)⟩
theorem Cg(C R:Nat)(s:ByteArray)(hC:C<=32)(hR:R<=24)(hC0:3<=C)(hR0:3<=R)(hz:s.size<=768)(w:World) :
  Ya 154 #[ar (C:Int) (R:Int) s] w (.bool (Xe C R s C && Xf C R s R)):=by
 obtain⟨T,eT⟩:∃T,T=(Xe (C:Int) (R:Int) s C && Xf (C:Int) (R:Int) s R):=⟨_,rfl⟩;have HT:=hid eT;rw[<- eT];clear eT;have p:=YA w (C:Int) (R:Int) s;have HS0:=hid (sA w (.cells #[.int .i64 (C:Int),.int .i64 (R:Int),.string s] 24));obtain⟨c0,c1,c2,cf⟩:=p.cells;go_enter Tryz.func154,Tryz.ntmps154;go_wp2_with fail;go_loopw [7] (fun v wr=>∃j:Nat,j<=C/\v=.int .i64 (j:Int)/\Xe C R s j=true/\Ab wr w.heap.size (C:Int) (R:Int) s/\Yc w wr) (fun v _=>C-(intOf v).toNat);case atStart=>exact⟨0,by omega,rfl,rfl,p,HS0.o⟩
 case round =>
  obtain⟨j,hj,rfl,hf,a1,hs⟩:=hrel;have HS1:=hid hs;clear hs p HS0 c0 c1 c2 cf;obtain⟨c0,c1,c2,cf⟩:=a1.cells;by_cases hlt:j<C
  ·have HX:=hid (show Xe C R s (j+1)=(Yg C R s (j:Int) 0 && Yg C R s (j:Int) ((R:Int)-1)) by rw[Xe,hf];rfl);have HY:=hid (show(Yg C R s (j:Int) 0 && Yg C R s (j:Int) ((R:Int)-1))=false->false=T from fun h=>by
    rw[HT.o,Tb (n:=j+1) (m:=C) (by omega) (HX.o.trans h)];rfl)
   clear hf;go_wp2_with fail;cases h1:Yg C R s (j:Int) 0 with
   | false =>
    refine(Xq C R (j:Int) 0 s (by omega) h1 _).mono ?_;rintro e w2 ⟨rfl,h2⟩;have HN:=hid (HY.o (by rw[h1];rfl));have HS2:=hid (HS1.o.trans h2);clear h1 h2 a1 HS1 HX HY c0 c1 c2 cf;go_wp2_with fail;go_ret;exact⟨ZK HN.o,HS2.o⟩
   | true =>
    refine(Xq C R (j:Int) 0 s (by omega) h1 _).mono ?_;rintro e w2 ⟨rfl,h2⟩;have a2:=a1.sT h2;have HS2:=hid (HS1.o.trans h2);rw[h1,Bool.true_and]at HX HY;clear h1 h2 a1 HS1 c0 c1 c2 cf;obtain⟨c0,c1,c2,cf⟩:=a2.cells;go_wp2_with fail;cases h1:Yg C R s (j:Int) ((R:Int)-1)with
    | false =>
     refine(Xq C R (j:Int) ((R:Int)-1) s (by omega) h1 _).mono ?_;rintro e w3 ⟨rfl,h3⟩;have HN:=hid (HY.o h1);have HS3:=hid (HS2.o.trans h3);clear h1 h3 a2 HS2 HX HY c0 c1 c2 cf;go_wp2_with fail;go_ret;exact⟨ZK HN.o,HS3.o⟩
    | true =>
     refine(Xq C R (j:Int) ((R:Int)-1) s (by omega) h1 _).mono ?_;rintro e w3 ⟨rfl,h3⟩;have HN:=hid (HX.o.trans h1);have a3:=a2.sT h3;have HS3:=hid (HS2.o.trans h3);clear h1 h3 a2 HS2 HX HY c0 c1 c2 cf;go_wp2_with fail;go_roundw;case rel=>exact⟨j+1,by omega,by go_num,HN.o,a3,HS3.o⟩
     case measure=>simp[intOf];omega
  ·obtain rfl:j=C:=by omega
   have HF:=hid hf;clear hf;go_wp2_with fail;go_loopw [26] (fun v wr=>∃i:Nat,i<=R/\v=.int .i64 (i:Int)/\Xf j R s i=true/\Ab wr w.heap.size (j:Int) (R:Int) s/\Yc w wr) (fun v _=>R-(intOf v).toNat);case atStart=>exact⟨0,by omega,rfl,rfl,a1,HS1.o⟩
   case round =>
    obtain⟨i,hi,rfl,hf,a1,hs⟩:=hrel;clear HS1;have HS1:=hid hs;clear hs c0 c1 c2 cf;obtain⟨c0,c1,c2,cf⟩:=a1.cells;by_cases hlt:i<R
    ·have HX:=hid (show Xf j R s (i+1)=(Yg j R s 0 (i:Int) && Yg j R s ((j:Int)-1) (i:Int)) by rw[Xf,hf];rfl);have HY:=hid (show(Yg j R s 0 (i:Int) && Yg j R s ((j:Int)-1) (i:Int))=false->false=T from fun h=>by
      rw[HT.o,Tc (n:=i+1) (m:=R) (by omega) (HX.o.trans h),Bool.and_false])
     clear hf;go_wp2_with fail;cases h1:Yg j R s 0 (i:Int)with
     | false =>
      refine(Xq j R 0 (i:Int) s (by omega) h1 _).mono ?_;rintro e w2 ⟨rfl,h2⟩;have HN:=hid (HY.o (by rw[h1];rfl));have HS2:=hid (HS1.o.trans h2);clear h1 h2 a1 HS1 HX HY c0 c1 c2 cf;go_wp2_with fail;go_ret;exact⟨ZK HN.o,HS2.o⟩
     | true =>
      refine(Xq j R 0 (i:Int) s (by omega) h1 _).mono ?_;rintro e w2 ⟨rfl,h2⟩;have a2:=a1.sT h2;have HS2:=hid (HS1.o.trans h2);rw[h1,Bool.true_and]at HX HY;clear h1 h2 a1 HS1 c0 c1 c2 cf;obtain⟨c0,c1,c2,cf⟩:=a2.cells;go_wp2_with fail;cases h1:Yg j R s ((j:Int)-1) (i:Int)with
      | false =>
       refine(Xq j R ((j:Int)-1) (i:Int) s (by omega) h1 _).mono ?_;rintro e w3 ⟨rfl,h3⟩;have HN:=hid (HY.o h1);have HS3:=hid (HS2.o.trans h3);clear h1 h3 a2 HS2 HX HY c0 c1 c2 cf;go_wp2_with fail;go_ret;exact⟨ZK HN.o,HS3.o⟩
      | true =>
       refine(Xq j R ((j:Int)-1) (i:Int) s (by omega) h1 _).mono ?_;rintro e w3 ⟨rfl,h3⟩;have HN:=hid (HX.o.trans h1);have a3:=a2.sT h3;have HS3:=hid (HS2.o.trans h3);clear h1 h3 a2 HS2 HX HY c0 c1 c2 cf;go_wp2_with fail;go_roundw;case rel=>exact⟨i+1,by omega,by go_num,HN.o,a3,HS3.o⟩
       case measure=>simp[intOf];omega
    ·have HN:=hid (show true=T by
      rw[HT.o,HF.o,show R=i by omega];rw[show R=i by omega]at hf;rw[hf];rfl)
     clear hf;go_wp2_with fail;go_ret;exact⟨ZK HN.o,HS1.o⟩
/-! ### The same as the document's -/
theorem Td{c r:Nat}{s:ByteArray}(hs:s.size=c*r){i j:Nat}(hi:i<c)(hj:j<r):Yg (c:Int) (r:Int) s (i:Int) (j:Int)=(byt s (j*c+i) == 35):=by
 have h1:j*c+i<s.size:=by
  rw[hs];have:(j+1)*c<=r*c:=Nat.mul_le_mul_right c (by omega);rw[Nat.succ_mul]at this;rw[Nat.mul_comm c r];omega
 exact Gv (k:=j*c+i) (by omega) (by rw[Int.natCast_add,Int.natCast_mul]) h1
theorem Te{C R:Int}{s:ByteArray}:∀{n:Nat},(∀i,i<n->Xr C R s i=true)->Zs C R s n=true
 | 0,_=>rfl
 | n+1,h=>by rw[Zs,Te (fun i hi=>h i (by omega)),h n (by omega)];rfl
theorem Tf(c r i:Nat)(hr:1<=r)(hc:1<=c):XY (c:Int) (r:Int) i=true ↔ (i % c=0\/i / c=0\/i % c=c-1\/i / c=r-1):=by
 unfold XY;have e1:(i:Int) % (c:Int)=((i % c:Nat):Int):=(Int.natCast_emod i c).symm;have e2:(i:Int) / (c:Int)=((i / c:Nat):Int):=(Int.natCast_ediv i c).symm;rw[e1,e2];simp only[Bool.or_eq_true,decide_eq_true_eq];omega
theorem Ch(c r:Nat)(s:ByteArray)(hc:3<=c)(hr:3<=r)(hs:s.size=c*r):Zs (c:Int) (r:Int) s s.size=(ZN s s.size && (Xe c r s c && Xf c r s r)):=by
 rw[Bool.eq_iff_iff,Bool.and_eq_true,Bool.and_eq_true];have pl:∀i j:Nat,i<c->j<r->j*c+i<s.size:=fun i j hi hj=>by
  have:(j+1)*c<=r*c:=Nat.mul_le_mul_right c (by omega);rw[Nat.succ_mul]at this;rw[hs,Nat.mul_comm c r];omega
 have md:∀i j:Nat,i<c->(j*c+i) % c=i/\(j*c+i) / c=j:=fun i j hi=>by
  constructor
  ·rw[Nat.mul_comm,Nat.mul_add_mod,Nat.mod_eq_of_lt hi]
  ·rw[Nat.mul_comm,Nat.mul_add_div (by omega),Nat.div_eq_of_lt hi,Nat.add_zero]
 constructor
 ·intro h;have hg:=KH h;have sg:∀i j:Nat,i<c->j<r->(i=0\/j=0\/i=c-1\/j=r-1)->Yg (c:Int) (r:Int) s (i:Int) (j:Int)=true:=fun i j hi hj he=>by
   rw[Td hs hi hj];have k:=hg (j*c+i) (pl i j hi hj);have ed:XY (c:Int) (r:Int) (j*c+i)=true:=(Tf c r (j*c+i) (by omega) (by omega)).2 (by
    rw[(md i j hi).1,(md i j hi).2];exact he)
   unfold Xr at k;rw[ed]at k;simpa using k
  refine⟨sgns_iff.2 fun i hi=>?_,cols_iff.2 fun i hi=>⟨?_,?_⟩,rows_iff.2 fun i hi=>⟨?_,?_⟩⟩
  ·have k:=hg i hi;unfold Xr at k;rw[Bool.or_eq_true,Bool.and_eq_true]at k;rcases k with k|k
   ·rw[beq_iff_eq.1 k];decide
   ·exact k.2
  ·have:=sg i 0 hi (by omega) (by omega);simpa using this
  ·have:=sg i (r-1) hi (by omega) (by omega);rw[show((r-1:Nat):Int)=(r:Int)-1 by omega]at this;exact this
  ·have:=sg 0 i (by omega) hi (by omega);simpa using this
  ·have:=sg (c-1) i (by omega) hi (by omega);rw[show((c-1:Nat):Int)=(c:Int)-1 by omega]at this;exact this
 ·rintro⟨h1,h2,h3⟩;refine Te fun i hi=>?_;have e:=Nat.div_add_mod i c;have m1:i % c<c:=Nat.mod_lt _ (by omega);have d1:i / c<r:=by
   rw[Nat.div_lt_iff_lt_mul (by omega),Nat.mul_comm r c,<- hs];exact hi
  have so:=Td hs m1 d1;rw[show i / c*c+i % c=i by rw[Nat.mul_comm];exact e]at so;unfold Xr;cases ed:XY (c:Int) (r:Int) i with
  | false=>rw[sgns_iff.1 h1 i hi];simp
  | true =>
   have k:=(Tf c r i (by omega) (by omega)).1 ed;have hsol:Yg (c:Int) (r:Int) s ((i % c:Nat):Int) ((i / c:Nat):Int)=true:=by
    rcases k with k|k|k|k
    ·rw[k];exact(rows_iff.1 h3 (i / c) d1).1
    ·rw[k];exact(cols_iff.1 h2 (i % c) m1).1
    ·rw[k,show((c-1:Nat):Int)=(c:Int)-1 by omega];exact(rows_iff.1 h3 (i / c) d1).2
    ·rw[k,show((r-1:Nat):Int)=(r:Int)-1 by omega];exact(cols_iff.1 h2 (i % c) m1).2
   rw[hsol]at so;rw[<- so];rfl
theorem Tg(s:ByteArray):∀n,n<=s.size->Zk s n=(s.data.toList.take n).count 42
 | 0,_=>by simp[Zk]
 | n+1,h=>by
  have hl:n<s.data.toList.length:=by rw[Array.length_toList];exact h
  rw[Zk,Tg s n (by omega),List.take_succ_eq_append_getElem hl,List.count_append];congr 1
  have e:byt s n=((s.data.toList[n]).toNat:Int):=by
   unfold byt;rw[List.getD_eq_getElem?_getD,List.getElem?_eq_getElem hl];rfl
  rw[e];obtain⟨b,eb⟩:∃b,s.data.toList[n]=b:=⟨_,rfl⟩;rw[eb,List.count_singleton];by_cases hb:b=42
  ·subst hb;rfl
  ·have h1:¬((b.toNat:Int)=42):=fun h=>hb (UInt8.toNat_inj.1 (by simpa using(show b.toNat=42 by omega)));rw[if_neg h1,if_neg (by simpa using hb)]
theorem Ci(s:ByteArray):Lib.countByte s.data.toList 42=Zk s s.size:=by
 rw[Tg s s.size (Nat.le_refl _),List.take_of_length_le (by rw[Array.length_toList];exact Nat.le_refl _)];rfl
theorem Uw(n l m:Int){t:Bool}(h:(decide (l<=n) && decide (n<=m))=t)(w:World):Yb 152 #[.int .i64 n,.int .i64 l,.int .i64 m] w (.bool t):=by
 rw[<- h];exact Cc n l m w
theorem Cj(C R:Int)(s:ByteArray)(h:Xi C R s=false)(w:World):Ya 90 #[ar C R s] w (.bool false):=by
  unfold Xi at h;have h':=of_decide_eq_false h;have hw : ((decide (3 <= C) && decide (C <= 32)) = false) \/ ((decide (3 <= C) && decide (C <= 32)) = true /\ (decide (3 <= R) && decide (R <= 24)) = false) \/
      ((decide (3<=C) && decide (C<=32))=true/\(decide (3<=R) && decide (R<=24))=true/\((s.size:Int) != C*R)=true/\0<=C*R/\C*R<=768):=by
    by_cases x1:3<=C/\C<=32
    · by_cases x2:3<=R/\R<=24
      · have m0:0<=C*R:=Int.mul_nonneg (by omega) (by omega)
        have m1:C*R<=32*24:=Int.mul_le_mul (by omega) (by omega) (by omega) (by omega);have:¬(s.size:Int)=C*R:=fun e=>h' ⟨by omega,by omega,by omega,by omega,e⟩;exact .inr (.inr ⟨by simpa using x1,by simpa using x2,by simpa using this,m0,by omega⟩)
      · exact .inr (.inl ⟨by simpa using x1,by simp;omega⟩)
    · exact .inl (by simp;omega)
  clear h h';have p:=YA w C R s;obtain⟨c0,c1,c2,cf⟩:=p.cells;rcases hw with x1|⟨x1,x2⟩|⟨x1,x2,x3,m0,m1⟩
  · have H1:=hid (fun u=>Uw C 3 32 x1 u)
    clear x1;go_enter Tryz.func90,Tryz.ntmps90;go_wp2_with (go_at_call 152;refine(H1.o _).mono ?_;rintro e w' ⟨he,hw⟩;rw[he,hw];clear he hw w');go_ret;exact⟨rfl,sA w _⟩
  · have H1:=hid (fun u=>Uw C 3 32 x1 u)
    have H2:=hid (fun u=>Uw R 3 24 x2 u);clear x1 x2;go_enter Tryz.func90,Tryz.ntmps90;go_wp2_with fail;refine(H1.o _).mono ?_;rintro e w' ⟨he,hw⟩;rw[he,hw];clear he hw w'
    go_wp2_with fail;refine(H2.o _).mono ?_;rintro e w' ⟨he,hw⟩;rw[he,hw];clear he hw w'
    go_wp2_with fail;go_ret;exact⟨rfl,sA w _⟩
  · have H1:=hid (fun u=>Uw C 3 32 x1 u)
    have H2:=hid (fun u=>Uw R 3 24 x2 u);clear x1 x2;go_enter Tryz.func90,Tryz.ntmps90;go_wp2_with fail;refine(H1.o _).mono ?_;rintro e w' ⟨he,hw⟩;rw[he,hw];clear he hw w'
    go_wp2_with fail;refine(H2.o _).mono ?_;rintro e w' ⟨he,hw⟩;rw[he,hw];clear he hw w'
    go_wp2_with fail;go_ret;exact⟨rfl,sA w _⟩
theorem Ck(C R:Nat)(s:ByteArray)(h:Xi (C:Int) (R:Int) s=true)(w:World):Ya 90 #[ar (C:Int) (R:Int) s] w (.bool (ZN s s.size && ((Xe C R s C && Xf C R s R) && decide (Zk s s.size<=16)))):=by
 unfold Xi at h;obtain⟨h1,h2,h3,h4,h5⟩:=of_decide_eq_true h;clear h;have m0:0<=(C:Int)*(R:Int):=Int.mul_nonneg (by omega) (by omega);have m1:(C:Int)*(R:Int)<=768:=by
  have:(C:Int)*(R:Int)<=32*24:=Int.mul_le_mul h2 h4 (by omega) (by omega);omega
 have hz:s.size<=768:=by omega
 have h5':((s.size:Int) != (C:Int)*(R:Int))=false:=by simpa using h5
 have H1:=hid (fun u=>Uw (C:Int) 3 32 (t:=true) (by simp;omega) u);have H2:=hid (fun u=>Uw (R:Int) 3 24 (t:=true) (by simp;omega) u);obtain⟨b1,e1⟩:∃b,ZN s s.size=b:=⟨_,rfl⟩;obtain⟨b2,e2⟩:∃b,(Xe C R s C && Xf C R s R)=b:=⟨_,rfl⟩;have H3:Hid (∀u:World,Yb 153 #[.string s] u (.bool b1)):=hid (fun u=>by
  have k:=Ce s (by omega) u;rw[e1]at k;exact k)
 have H4:Hid (∀u:World,Ya 154 #[ar (C:Int) (R:Int) s] u (.bool b2)):=hid (fun u=>by
  have k:=Cg C R s (by omega) (by omega) (by omega) (by omega) hz u;rw[e2]at k;exact k)
 have H5:Hid (∀u:World,Yb 155 #[.string s,.string ⟨#[42]⟩] u (.int .i64 ((Zk s s.size:Nat):Int))):=hid (fun u=>by
  have k:=Tryz.strings_Count_one s 42 u;rw[Ci s]at k;exact k)
 rw[e1,e2];have sl:=GC s s.size;obtain⟨n,en⟩:∃n,Zk s s.size=n:=⟨_,rfl⟩;rw[en]at H5 sl⊢;have hd:decide ((n:Int)<=16)=decide (n<=16):=decide_eq_decide.mpr (by omega);have HD:=hid hd;clear e1 e2 en h5 hd;have p:=YA w (C:Int) (R:Int) s;obtain⟨c0,c1,c2,cf⟩:=p.cells;have HS0:=hid (sA w (.cells #[.int .i64 (C:Int),.int .i64 (R:Int),.string s] 24));go_enter Tryz.func90,Tryz.ntmps90;go_wp2_with fail;refine(H1.o _).mono ?_;rintro e w' ⟨he,hw⟩;rw[he,hw];clear he hw w'
 go_wp2_with fail;refine(H2.o _).mono ?_;rintro e w' ⟨he,hw⟩;rw[he,hw];clear he hw w'
 cases b1 with
 | false =>
  go_wp2_with (go_at_call 153;refine(H3.o _).mono ?_;rintro e w' ⟨he,hw⟩;rw[he,hw];clear he hw w');go_ret;exact⟨rfl,HS0.o⟩
 | true =>
  go_wp2_with fail;refine(H3.o _).mono ?_;rintro e w' ⟨he,hw⟩;rw[he,hw];clear he hw w'
  go_wp2_with fail;refine(H4.o _).mono ?_;rintro e w2 ⟨rfl,h2⟩;have p2:=p.sT h2;have HS2:=hid (HS0.o.trans h2);clear p h2 HS0 c0 c1 c2 cf;obtain⟨c0,c1,c2,cf⟩:=p2.cells;cases b2 with
  | false =>
   go_wp2_with fail;go_ret;exact⟨rfl,HS2.o⟩
  | true =>
   go_wp2_with fail;refine(H5.o _).mono ?_;rintro e w' ⟨he,hw⟩;rw[he,hw];clear he hw w'
   go_wp2_with fail;go_ret;exact⟨ZK HD.o,HS2.o⟩
theorem Cn(C R:Int)(s:ByteArray)(w:World):Ya 90 #[ar C R s] w (.bool (YL C R s)):=by
 unfold YL;cases h:Xi C R s with
 | false=>exact Cj C R s h w
 | true =>
  rw[Bool.true_and];have h':=h;unfold Xi at h';obtain⟨h1,h2,h3,h4,h5⟩:=of_decide_eq_true h';obtain⟨c,rfl⟩:∃c:Nat,C=c:=⟨C.toNat,by omega⟩;obtain⟨r,rfl⟩:∃r:Nat,R=r:=⟨R.toNat,by omega⟩;have q7:s.size=c*r:=by exact_mod_cast h5
  rw[Ch c r s (by omega) (by omega) q7];have k:=Ck c r s h w;rw[<- Bool.and_assoc]at k;exact k
theorem Th(C R:Int)(s:ByteArray){t:Bool}(h:YL C R s=t)(w:World):Ya 90 #[ar C R s] w (.bool t):=by
 rw[<- h];exact Cn C R s w
end
end Go.Proofs.YtcgmohldcokccaaGreatDoor
