import Derived.Test.YtcgmohldcokccaaGreatDoorXR01
import Derived.Laws.NewBlocks
import Derived.Deep.MidRow
import Derived.Laws.Entries
import Derived.Lib.Strings
import Derived.WalkMore
import Derived.Laws.MakeOwn
set_option linter.unusedVariables false
set_option maxHeartbeats 8000000
set_option maxRecDepth 100000
namespace Go.Proofs.YtcgmohldcokccaaGreatDoor
section
open Go.RowKit
def more(w:World)(J:Array Obj)(n:Nat):World:=⟨w.heap ++ J,w.tape,n,w.os,w.output⟩
theorem Fr.more{w w':World}(h:Yc w w'):∃J n,w'=more w J n:=by
 refine⟨w'.heap.extract w.heap.size w'.heap.size,w'.drawn,?_⟩;obtain⟨a,b,c,d,e⟩:=h;cases w';simp only at a b c d e;subst a;subst b;subst c
 unfold Go.Proofs.YtcgmohldcokccaaGreatDoor.more;congr 1
 apply Array.ext_getElem?;intro k;by_cases hk:k<w.heap.size
 ·rw[e k hk (fun h=>h),Array.getElem?_append_left hk]
 ·rw[Array.getElem?_append_right (by omega),Array.getElem?_extract];split
  ·congr 1;omega
  ·rename_i hh;simp only[Nat.min_self]at hh;exact Array.getElem?_eq_none (by omega)
variable {w:World} {J:Array Obj} {n:Nat}
theorem X0:(more w J n).heap.size=w.heap.size+J.size:=by simp[more]
theorem VR(b:Nat)(h:b<w.heap.size):(more w J n).heap[b]?=w.heap[b]?:=Array.getElem?_append_left h
theorem still_more:Yc w (more w J n):=⟨rfl,rfl,rfl,by rw[X0];omega,fun k hk _=>VR k hk⟩
theorem AF(b o:Nat)(h:b<w.heap.size):(more w J n).cell? ⟨b,o,none⟩=w.cell? ⟨b,o,none⟩:=still_more.cell h (fun e=>e)
theorem AH(b o:Nat)(h:b<w.heap.size):(more w J n).frozen? ⟨b,o,none⟩=w.frozen? ⟨b,o,none⟩:=still_more.frozen h (fun e=>e)
theorem AJ(b:Nat)(h:b<w.heap.size):(more w J n).shape? b=w.shape? b:=by unfold World.shape?;rw[VR b h]
theorem AK(b o:Nat)(v:Value)(h:b<w.heap.size):(more w J n).setCell ⟨b,o,none⟩ v=more (w.setCell ⟨b,o,none⟩ v) J n:=by
 unfold more World.setCell;congr 1
 apply Array.ext_getElem?;intro k;simp only[Array.getElem?_modify];by_cases hk:k<w.heap.size
 ·rw[Array.getElem?_append_left hk,Array.getElem?_append_left (by simpa using hk),Array.getElem?_modify]
 ·rw[Array.getElem?_append_right (by omega),Array.getElem?_append_right (by simpa using hk),if_neg (by omega)];simp
theorem zc{P:Program}{W:World}{v:Value}{K:Ending->World->Prop}{f:Nat}{a:Array Value}(hc:Calls P f a W fun e w'=>e=.returned v/\Yc W w')(k:∀J n,K (.returned v) (more W J n)):Calls P f a W K:=hc.mono fun e w' h=>by obtain⟨rfl,h⟩:=h;obtain⟨J,n,rfl⟩:=h.more;exact k J n
theorem Gn{F:Nat->Prop}{a w:World}(h:Fr F a w)(J:Array Obj)(n:Nat):Fr F a (more w J n):=Fr.trans h (Yc.to (F:=F) still_more) fun _ _ h=>h
theorem zr:(∀w J n,(more w J n).heap.size=w.heap.size+J.size)/\(∀w J n b o,b<w.heap.size->(more w J n).cell? ⟨b,o,none⟩=w.cell? ⟨b,o,none⟩)/\(∀w J n b o,b<w.heap.size->(more w J n).frozen? ⟨b,o,none⟩=w.frozen? ⟨b,o,none⟩)/\(∀w J n b,b<w.heap.size->(more w J n).shape? b=w.shape? b)/\(∀w J n b o v,b<w.heap.size->(more w J n).setCell ⟨b,o,none⟩ v=more (w.setCell ⟨b,o,none⟩ v) J n)/\(∀w J n,(more w J n).drew=more w J (n+1))/\(∀x:Nat,x<x+1)/\(∀x a:Nat,x<x+1+a)/\(∀x a b:Nat,x<x+1+a+b)/\(∀x a b c:Nat,x<x+1+a+b+c)/\(∀x a b c d:Nat,x<x+1+a+b+c+d)/\(∀x a b c d e:Nat,x<x+1+a+b+c+d+e)/\(∀x a b c d e f:Nat,x<x+1+a+b+c+d+e+f)/\(∀x a b c d e f g:Nat,x<x+1+a+b+c+d+e+f+g)/\(∀x a b c d e f g h:Nat,x<x+1+a+b+c+d+e+f+g+h)/\(∀x a b c d e f g h i:Nat,x<x+1+a+b+c+d+e+f+g+h+i)/\(∀x a b c d e f g h i j:Nat,x<x+1+a+b+c+d+e+f+g+h+i+j):=by
 refine⟨fun _ _ _=>X0,fun _ _ _=>AF,fun _ _ _=>AH,fun _ _ _=>AJ,fun _ _ _=>AK,fun _ _ _=>rfl,?_⟩;refine⟨?_,?_,?_,?_,?_,?_,?_,?_,?_,?_,?_⟩<;>intros<;>omega
theorem Y0:(∀W (z:Aft W) b o,b<W.heap.size->z.u.cell? ⟨b,o,none⟩=W.cell? ⟨b,o,none⟩)/\(∀W (z:Aft W) b o,b<W.heap.size->z.u.frozen? ⟨b,o,none⟩=W.frozen? ⟨b,o,none⟩)/\(∀W,Nonempty (Aft W)):=⟨fun _ z _ _ h=>z.s.cell h (fun e=>e),fun _ z _ _ h=>z.s.frozen h (fun e=>e),Aft.here⟩
theorem Ya.of{f:Nat}{a:Array Value}{w:World}{v:Value}(h:Yb f a w v):Ya f a w v:=h.mono fun _ _ h=>⟨h.1,h.2 ▸ Fr.refl _ _⟩
theorem gw{P:Program}{s:Code}{K:Exit->Act->World->Prop}{a:Act}{w:World}(h:∀W,w=W->s.wp P K a W):s.wp P K a w:=h w rfl
theorem zst{p:Prop}(h:p:=by(repeat(first|with_reducible exact Fr.refl _ _|with_reducible assumption|with_reducible refine Gn ?_ _ _|with_reducible refine Fr.drew ?_|with_reducible refine Fr.alloc ?_ _))):p:=h
theorem XU(w:World)(o:Obj)(g:Nat)(h:g=w.heap.size):(w.alloc o).heap[g]?=some o:=by subst h;exact heap_alloc_new w o
theorem Xh(w:World)(o:Obj)(g:Nat)(h:g<w.heap.size):(w.alloc o).heap[g]?=w.heap[g]?:=Below.heap_alloc _ _ _ h
theorem Jt(w:World)(J:Array Obj)(n g:Nat)(h:g<w.heap.size):(more w J n).heap[g]?=w.heap[g]?:=VR g h
theorem Ju(w:World):w.drew.heap=w.heap:=rfl
theorem zbk{p:Prop}(h:p:=by(show _=_;simp only[XU,Xh,Jt,Ju,zr,World.size_alloc,World.size_drew];try rfl)):p:=h
theorem Jv{w:World}{g:Nat}{cs:List Value}{t ty:TypeId}{fr:Nat × Nat}(h:w.heap[g]?=some (.cells cs.toArray t fr))(hq:(Tryz.prog.underlying ty).map TypeDesc.isRow=some true)(hi:(Tryz.prog.info? ty).map (·.size)=some cs.length):(loadVar ty ⟨g,0,none⟩).run Tryz.prog w=.ok (.agg cs.toArray) w:=by
 cases hu:Tryz.prog.underlying ty with
 | none=>rw[hu]at hq;cases hq
 | some d=>exact run_loadVar_mid w g 0 ty cs d (fun j v hv=>by rw[cell_of_row _ _ _ _ _ _ h];simpa using hv) hu (by rw[hu]at hq;simpa using hq) hi
section
variable {fn:Func} {p q r:Tmp} {w:World} {g k:Nat} {cs ds:List Value} {t t' ty ty':TypeId} {fr fr':Nat × Nat} {tmps:Array Value}
theorem XV(h:w.heap[g]?=some (.cells cs.toArray t fr))(hf:fn.results=#[.cell p ty])(hp:tmps.getD p undef=.pointer (some ⟨g,0,none⟩))(hq:(Tryz.prog.underlying ty).map TypeDesc.isRow=some true:=by kernel_rfl)(hi:(Tryz.prog.info? ty).map (·.size)=some cs.length:=by kernel_rfl):(results fn tmps).run Tryz.prog w=.ok (.agg cs.toArray) w:=by
 have hp':tmps[p]?.getD undef=.pointer (some ⟨g,0,none⟩):=by simpa using hp
 simp[results,hf,hp',asAddr,Jv h hq hi]
theorem YF(h:w.heap[g]?=some (.cells cs.toArray t fr))(hf:fn.results=#[.cell p ty,.tmp q])(hp:tmps.getD p undef=.pointer (some ⟨g,0,none⟩))(hq:(Tryz.prog.underlying ty).map TypeDesc.isRow=some true:=by kernel_rfl)(hi:(Tryz.prog.info? ty).map (·.size)=some cs.length:=by kernel_rfl):(results fn tmps).run Tryz.prog w=.ok (.tuple #[.agg cs.toArray,tmps.getD q undef]) w:=by
 have hp':tmps[p]?.getD undef=.pointer (some ⟨g,0,none⟩):=by simpa using hp
 simp[results,hf,hp',asAddr,Jv h hq hi,Result.andThen]
theorem Y9(h:w.heap[g]?=some (.cells cs.toArray t fr))(hf:fn.results=#[.cell p ty,.tmp q,.tmp r])(hp:tmps.getD p undef=.pointer (some ⟨g,0,none⟩))(hq:(Tryz.prog.underlying ty).map TypeDesc.isRow=some true:=by kernel_rfl)(hi:(Tryz.prog.info? ty).map (·.size)=some cs.length:=by kernel_rfl):(results fn tmps).run Tryz.prog w=.ok (.tuple #[.agg cs.toArray,tmps.getD q undef,tmps.getD r undef]) w:=by
 have hp':tmps[p]?.getD undef=.pointer (some ⟨g,0,none⟩):=by simpa using hp
 simp[results,hf,hp',asAddr,Jv h hq hi,Result.andThen]
theorem X3(h:w.heap[g]?=some (.cells cs.toArray t fr))(h':w.heap[k]?=some (.cells ds.toArray t' fr'))(hf:fn.results=#[.cell p ty,.cell q ty',.tmp r])(hp:tmps.getD p undef=.pointer (some ⟨g,0,none⟩))(hp2:tmps.getD q undef=.pointer (some ⟨k,0,none⟩))(hq:(Tryz.prog.underlying ty).map TypeDesc.isRow=some true:=by kernel_rfl)(hi:(Tryz.prog.info? ty).map (·.size)=some cs.length:=by kernel_rfl)(hq2:(Tryz.prog.underlying ty').map TypeDesc.isRow=some true:=by kernel_rfl)(hi2:(Tryz.prog.info? ty').map (·.size)=some ds.length:=by kernel_rfl):(results fn tmps).run Tryz.prog w=.ok (.tuple #[.agg cs.toArray,.agg ds.toArray,tmps.getD r undef]) w:=by
 have hp':tmps[p]?.getD undef=.pointer (some ⟨g,0,none⟩):=by simpa using hp
 have hp2':tmps[q]?.getD undef=.pointer (some ⟨k,0,none⟩):=by simpa using hp2
 simp[results,hf,hp',hp2',asAddr,Jv h hq hi,Jv h' hq2 hi2,Result.andThen]
end
theorem WR{w u:World}{g:Nat}{o:Obj}(hs:Yc w u)(hg:w.heap.size<=g)(h:u.heap[g]?=some o):∃J n K k,u=more ((more w J n).alloc o) K k/\g=w.heap.size+J.size:=by
 obtain⟨L,n,rfl⟩:=hs.more;have hL:g-w.heap.size<L.size:=by have:=Yz h;rw[X0]at this;omega
 have e:L[g-w.heap.size]?=some o:=by
  have:(more w L n).heap[g]?=L[g-w.heap.size]?:=Array.getElem?_append_right hg;rw[<- this];exact h
 refine⟨L.extract 0 (g-w.heap.size),n,L.extract (g-w.heap.size+1) L.size,n,?_,by simp;omega⟩;unfold more World.alloc;congr 1
 apply Array.ext_getElem?;intro i;simp only[Array.push_eq_append,Array.append_assoc];by_cases h1:i<w.heap.size
 ·simp[Array.getElem?_append_left h1]
 ·rw[Array.getElem?_append_right (by omega),Array.getElem?_append_right (by omega)];by_cases h2:i-w.heap.size<g-w.heap.size
  ·rw[Array.getElem?_append_left (by simp;omega)];rw[Array.getElem?_extract,if_pos (by omega),Nat.zero_add]
  ·rw[Array.getElem?_append_right (by simp;omega)];by_cases h3:i-w.heap.size=g-w.heap.size
   ·rw[h3,e,Array.getElem?_append_left (by simp;omega)];simp[show min (g-w.heap.size) L.size=g-w.heap.size by omega]
   ·rw[Array.getElem?_append_right (by simp;omega),Array.getElem?_extract];simp only[Array.size_extract,List.size_toArray,List.length_singleton];split
    ·congr 1;omega
    ·exact Array.getElem?_eq_none (by omega)
end
section
open Go.RowKit
open Pu Gp
attribute [local go_sem] zr Y0
theorem tpt{p:Prop}(h:p:=by
  simp only[tkd];repeat(go_big_quiet_step (first|exact Calls.cl_same (H _ _)|exact Calls.cl_same (H _ _ _)))
  refine wpQuiet_nil ?_;intro w' h';obtain⟨J,n,rfl⟩:=h'.more
  go_wp2_with fail;exact bodyPost_ret (XV zbk rfl rfl) rfl ⟨rfl,zst⟩):p:=h
section
variable (x y z u b:Int) (w:World)
theorem UB:Ya 136 #[pt x y] w (pt (bnd x) (bnd y)):=by have H:=Vs;unfold Ya;go_in;go_wp2_with fail;refine Yp 6 (by kernel_rfl) (by kernel_rfl) ?_;exact tpt
theorem K1:Ya 283 #[pt x y,pt z u] w (pt (Yd x z) (Yd y u)):=by have H:=Ac;unfold Ya;go_in;go_wp2_with fail;refine Yp 10 (by kernel_rfl) (by kernel_rfl) ?_;exact tpt
theorem AL:Ya 298 #[pt x y,pt z u] w (pt (Ye x z) (Ye y u)):=by have H:=Ae;unfold Ya;go_in;go_wp2_with fail;refine Yp 10 (by kernel_rfl) (by kernel_rfl) ?_;exact tpt
theorem WS:Ya 284 #[pt x y,.int .i64 b] w (pt (Y7 x b) (Y7 y b)):=by have H:=Ai;unfold Ya;go_in;go_wp2_with fail;refine Yp 8 (by kernel_rfl) (by kernel_rfl) ?_;exact tpt
theorem tpr{p:Prop}(h:p:=by
  unfold Ya;go_in;go_wp2_with fail
  exact bodyPost_ret (XV zbk rfl rfl) rfl ⟨rfl,zst⟩):p:=h
theorem WT:Ya 319 #[pt x y,pt z u] w (pt (max x z) (max y u)):=tpr
theorem WU:Ya 320 #[pt x y,pt z u] w (pt (min x z) (min y u)):=tpr
end
theorem tpb{p:Prop}(h:p:=by
  unfold Ya;go_in;go_wp2_with (go_at_call 297;refine zc (Ya.of (Ao _ _)) ?_;intro J0 n0)
  refine Yp 6 (by kernel_rfl) (by kernel_rfl) ?_;simp only[tkd];repeat(go_big_quiet_step (first|exact Calls.cl (H _ _ _ _ _)|exact Calls.cl (H' _ _ _ _ _)))
  refine wpQuiet_nil ?_;intro w' h';obtain⟨J,n,rfl⟩:=h'.more
  go_wp2_with fail;exact bodyPost_ret (XV zbk rfl rfl) rfl ⟨rfl,zst⟩):p:=h
theorem AM(x y z u:Int)(w:World):Ya 333 #[pt x y,pt z u] w (bx (min x z) (min y u) (max x z) (max y u)):=by
 have H:=WU;have H':=WT;exact tpb
theorem Gq(x y n:Int)(w:World):Ya 249 #[pt x y,.int .i64 n] w (bx (Ye x (Yl n 0 2147483647)) (Ye y (Yl n 0 2147483647)) (Yd x (Yl n 0 2147483647)) (Yd y (Yl n 0 2147483647))):=by
 have H:=AL;have H':=K1;exact tpb
theorem K2(a b c d:Int)(w:World):Ya 318 #[bx a b c d] w (.int .i64 (chk a b c d)):=by
 have E:∀u,(binOp .neq 172 (bx (min (bnd a) (bnd c)) (min (bnd b) (bnd d)) (max (bnd a) (bnd c)) (max (bnd b) (bnd d))) (bx a b c d)).run Tryz.prog u=.ok (.bool (!okb a b c d)) u:=fun u=>by
  cases h:okb a b c d
  ·exact Az (fun k=>A8 h ((WC a b c d).2 k)) u
  ·exact Ay ((WC a b c d).1 (VN h)) u
 have G:=WB;unfold chk Ya;generalize okb a b c d=k at *
 go_in;go_wp2_with fail
 refine Yk (by kernel_rfl) (by kernel_rfl) ?_;repeat(go_big_quiet_step (first|(go_at_call 136;exact Calls.cl (UB _ _ _))|(go_at_call 333;exact Calls.cl (AM _ _ _ _ _))))
 refine wpQuiet_nil ?_;intro w' h';obtain⟨J,n,rfl⟩:=h'.more
 cases k;all_goals
  go_wp2_with fail;go_ret;exact⟨rfl,zst⟩
attribute [local go_sem] zr Y0
theorem zpt{p:Prop}(h:p:=by
  simp only[tkd];repeat(go_big_quiet_step (first|exact Calls.cl_same (H _ _)|exact Calls.cl_same (H _ _ _)|exact Calls.cl (H _ _ _ _ _)|exact Calls.cl (H' _ _ _ _ _)))
  refine wpQuiet_nil ?_;intro w' h';obtain⟨J,n,rfl⟩:=h'.more
  go_wp2_with fail;exact bodyPost_ret (XV zbk rfl rfl) rfl ⟨rfl,zst⟩):p:=h
section
variable (x y z u b:Int) (w:World)
theorem VS:Ya 84 #[pt x y] w (pt (bnd x) (bnd y)):=by have H:=XC;unfold Ya;go_in;go_wp2_with fail;refine Yp 6 (by kernel_rfl) (by kernel_rfl) ?_;exact zpt
theorem VT:Ya 121 #[pt x y,pt z u] w (pt (Yd x z) (Yd y u)):=by have H:=Ad;unfold Ya;go_in;go_wp2_with fail;refine Yp 10 (by kernel_rfl) (by kernel_rfl) ?_;exact zpt
theorem AN:Ya 199 #[pt x y,pt z u] w (pt (Ye x z) (Ye y u)):=by have H:=Af;unfold Ya;go_in;go_wp2_with fail;refine Yp 10 (by kernel_rfl) (by kernel_rfl) ?_;exact zpt
theorem Gr:Ya 119 #[pt x y,.int .i64 b] w (pt (Y7 x b) (Y7 y b)):=by have H:=Aj;unfold Ya;go_in;go_wp2_with fail;refine Yp 8 (by kernel_rfl) (by kernel_rfl) ?_;exact zpt
end
theorem Gs(x y n:Int)(w:World):Ya 132 #[pt x y,.int .i64 n] w (bx (Ye x (Yl n 0 2147483647)) (Ye y (Yl n 0 2147483647)) (Yd x (Yl n 0 2147483647)) (Yd y (Yl n 0 2147483647))):=by
 have H:=AN;have H':=VT
 unfold Ya;go_in;go_wp2_with (go_at_call 122;refine zc (Ya.of (Jo _ _ _ _)) ?_;intro J0 n0)
 refine Yp 6 (by kernel_rfl) (by kernel_rfl) ?_;exact zpt
theorem AO(a b c d:Int):okb a b c d=(((bnd a == a && bnd b == b) && (bnd c == c && bnd d == d)) && (decide (a<=c) && decide (b<=d))):=by
 have a0:=Yn a;have a1:=Yo a;have b0:=Yn b;have b1:=Yo b
 have c0:=Yn c;have c1:=Yo c;have d0:=Yn d;have d1:=Yo d
 rw[Bool.eq_iff_iff];unfold okb;simp only[Bool.and_eq_true,beq_iff_eq,decide_eq_true_eq];constructor
 ·rintro⟨h0,h1,h2,h3,h4,h5,h6,h7,h8,h9⟩;rw[bnd_id h0 h1,bnd_id h2 h3,bnd_id h4 h5,bnd_id h6 h7];simp[h8,h9]
 ·rintro⟨⟨⟨h0,h1⟩,h2,h3⟩,h4,h5⟩;omega
theorem UC(a b c d:Int)(w:World):Ya 198 #[bx a b c d] w (.int .i64 (chk a b c d)):=by
 have H1:=hid (VS a b);have H2:=hid (VS c d);have E1:=Ga (bnd a) (bnd b) a b;have E2:=Ga (bnd c) (bnd d) c d;have G:=U6;have HR:=hid (AO a b c d);unfold chk Ya;generalize (bnd a == a && bnd b == b)=x at *
 generalize (bnd c == c && bnd d == d)=y at *
 generalize okb a b c d=r at *
 go_in;go_wp2_with (go_at_call 84;(first|with_reducible refine zc (H1.o _) ?_|with_reducible refine zc (H2.o _) ?_);intro J n)
 all_goals go_ret;exact⟨by have h:=HR.o;simp_all<;>omega,zst⟩
theorem AP(a b c d a' b' c' d':Int)(w:World):Ya 195 #[bx a b c d,bx a' b' c' d'] w (.tuple #[mb a b c d a' b' c' d',.bool (mt a b c d a' b' c' d')]):=by
  have H1:=hid (UC a b c d);have H2:=hid (UC a' b' c' d');unfold mb mt;unfold chk at H1 H2;cases e1:okb a b c d<;>cases e2:okb a' b' c' d'<;>rw[e1]at H1<;>rw[e2]at H2<;>have H3:=hid (And.intro e1 e2)<;>clear e1 e2
  all_goals
    unfold Ya;go_in;go_wp2_with (go_at_call 198;(first|with_reducible refine zc (H1.o _) ?_|with_reducible refine zc (H2.o _) ?_|refine zc (UC _ _ _ _ _) ?_);intro J n)
    all_goals
      refine bodyPost_ret (YF zbk rfl rfl) rfl ⟨?_,zst⟩;clear H1 H2;first
        | (simp[mif];done)
        | (first|rw[Int.max_eq_right (show a <= a' by omega)]|rw[Int.max_eq_left (show a' <= a by omega)]
           first|rw[Int.max_eq_right (show b<=b' by omega)]|rw[Int.max_eq_left (show b' <= b by omega)]
           first|rw[Int.min_eq_right (show c' <= c by omega)]|rw[Int.min_eq_left (show c<=c' by omega)]
           first|rw[Int.min_eq_right (show d' <= d by omega)]|rw[Int.min_eq_left (show d<=d' by omega)]
           go_tidy
           have h3:=H3.o;simp_all[mif,chk])
theorem WV(a b c d a' b' c' d':Int)(w:World):Ya 125 #[bx a b c d,bx a' b' c' d'] w (.bool (mt a b c d a' b' c' d')):=by
 unfold Ya;go_in;go_wp2_with (go_at_call 195;refine zc (AP _ _ _ _ _ _ _ _ _) ?_;intro J n)
 go_ret;exact⟨rfl,zst⟩
theorem AQ{a b c d x y:Int}:mt a b c d x y x y=true ↔ (okb a b c d=true/\a<=x/\x<=c/\b<=y/\y<=d):=by
 unfold mt;constructor
 ·intro h;simp only[Bool.and_eq_true]at h;obtain⟨⟨h1,h2⟩,h3⟩:=h;have k3:=VN h3;unfold okB at k3;exact⟨h1,by omega,by omega,by omega,by omega⟩
 ·rintro⟨h1,h2,h3,h4,h5⟩;have k1:=VN h1;unfold okB at k1;simp only[Bool.and_eq_true];exact⟨⟨h1,Gb (by unfold okB;omega)⟩,Gb (by unfold okB;omega)⟩
theorem AR(a b c d x y:Int)(w:World):Ya 128 #[bx a b c d,pt x y] w (.bool (mt a b c d x y x y)):=by
 have H:=hid (UC a b c d);have HR:Hid (mt a b c d x y x y=(okb a b c d && (decide (a<=x) && decide (x<=c) && decide (b<=y) && decide (y<=d)))):=hid (by rw[Bool.eq_iff_iff,AQ];simp[and_assoc]);unfold chk at H;unfold Ya;generalize okb a b c d=r at *
 go_in;go_wp2_with (go_at_call 198;refine zc (H.o _) ?_;intro J n)
 all_goals go_ret;exact⟨by have h:=HR.o;simp_all<;>omega,zst⟩
end
namespace Ap
open Pu Gp
/-! ### Cells -/
def dn(n:Int):Int:=n / 4096
theorem AU(n:Int):(if n<n.tdiv 4096*4096 then n.tdiv 4096-1 else n.tdiv 4096)=dn n:=by
 unfold dn;rcases Int.le_total 0 n with h|h
 ·rw[Int.tdiv_eq_ediv_of_nonneg h];split<;>omega
 ·have e:n.tdiv 4096=-((-n) / 4096):=by
   rw[<- Int.tdiv_eq_ediv_of_nonneg (show 0 <= -n by omega),Int.neg_tdiv];omega
  rw[e];split<;>omega
theorem UD{a b:Int}(h:a<=b):dn a<=dn b:=by unfold dn;omega
theorem Vv{n:Int}(h0:-2147483647<=n)(h1:n<=2147483647):-524288<=dn n/\dn n<=524287:=by unfold dn;omega
def Vw(sol:Int->Int->Bool)(l t r b:Int):Bool:=(List.range (b-t+1).toNat).any fun j=>(List.range (r-l+1).toNat).any fun i=>sol (l+(i:Int)) (t+(j:Int))
theorem anyC_iff{sol:Int->Int->Bool}{l t r b:Int}:Vw sol l t r b=true ↔ ∃i j,l<=i/\i<=r/\t<=j/\j<=b/\sol i j=true:=by
 unfold Vw;rw[List.any_eq_true];constructor
 ·rintro⟨j,hj,h⟩;rw[List.any_eq_true]at h;obtain⟨i,hi,h⟩:=h;rw[List.mem_range]at hi hj;exact⟨l+i,t+j,by omega,by omega,by omega,by omega,h⟩
 ·rintro⟨i,j,h1,h2,h3,h4,h⟩;refine⟨(j-t).toNat,List.mem_range.2 (by omega),?_⟩;rw[List.any_eq_true];refine⟨(i-l).toNat,List.mem_range.2 (by omega),?_⟩;rw[show l+((i-l).toNat:Int)=i by omega,show t+((j-t).toNat:Int)=j by omega];exact h
theorem Gt{sol:Int->Int->Bool}{l t r b:Int}(h:∀i j,l<=i->i<=r->t<=j->j<=b->sol i j=false):Vw sol l t r b=false:=by
 cases k:Vw sol l t r b with
 | false=>rfl
 | true =>
  obtain⟨i,j,h1,h2,h3,h4,h5⟩:=anyC_iff.1 k;rw[h i j h1 h2 h3 h4]at h5;cases h5
theorem AV{sol:Int->Int->Bool}{l t r b:Int}(h:Vw sol l t r b=false){i j:Int}(h1:l<=i)(h2:i<=r)(h3:t<=j)(h4:j<=b):sol i j=false:=by
 cases k:sol i j with
 | false=>rfl
 | true =>
  rw[anyC_iff.2 ⟨i,j,h1,h2,h3,h4,k⟩]at h;cases h
def tch(sol:Int->Int->Bool)(a b c d:Int):Bool:=Vw sol (dn a) (dn b) (dn c) (dn d)
/-! ### A way that is gone step by step -/
def go(t:Nat->Bool):Nat->Nat
 | 0=>0
 | n+1=>if go t n=n/\t (n+1)=false then n+1 else go t n
theorem UE(t:Nat->Bool):∀n,go t n<=n
 | 0=>Nat.le_refl _
 | n+1=>by
  have:=UE t n;unfold go;split<;>omega
theorem Gu(t:Nat->Bool):∀n j,1<=j->j<=go t n->t j=false
 | 0,j,h1,h2=>by simp[go]at h2;omega
 | n+1,j,h1,h2=>by
  unfold go at h2;split at h2
  ·rename_i h;by_cases hj:j=n+1
   ·subst hj;exact h.2
   ·exact Gu t n j h1 (by rw[h.1];omega)
  ·exact Gu t n j h1 h2
theorem WW(t:Nat->Bool):∀n,go t n<n->t (go t n+1)=true
 | 0,h=>by omega
 | n+1,h=>by
  unfold go at h⊢;split
  ·rename_i k;rw[if_pos k]at h;omega
  ·rename_i k;rw[if_neg k]at h;by_cases e:go t n=n
   ·rw[e];cases ht:t (n+1)with
    | true=>rfl
    | false=>exact absurd ⟨e,ht⟩ k
   ·exact WW t n (by have:=UE t n;omega)
theorem XF{t:Nat->Bool}{n k:Nat}(h1:k<=n)(h2:∀j,1<=j->j<=k->t j=false)(h3:k<n->t (k+1)=true):go t n=k:=by
 have a:=UE t n;rcases Nat.lt_trichotomy (go t n) k with h|h|h
 ·have:=WW t n (by omega);rw[h2 _ (by omega) (by omega)]at this;cases this
 ·exact h
 ·have:=h3 (by omega);rw[Gu t n (k+1) (by omega) (by omega)]at this;cases this
/-! ### Steps -/
def stp(n:Int):Int:=Yl n (-2048) 2048
theorem Vx(n:Int):-2048<=stp n/\stp n<=2048:=by
 have h1:bnd (-2048)=-2048:=by decide
 have h2:bnd 2048=2048:=by decide
 unfold stp Yl;rw[h1,h2];repeat' split
 all_goals omega
def sgn(n:Int):Int:=if 0<n then 1 else if n<0 then -1 else 0
def bdy(sol:Int->Int->Bool)(r x y:Int):Bool:=tch sol (Ye x r) (Ye y r) (Yd x r) (Yd y r)
end Ap
section
open Go.RowKit
open Pu Gp Ap
abbrev ar(C R:Int)(s:ByteArray):Value:=.agg #[.int .i64 C,.int .i64 R,.string s]
def Ab(w:World)(b:Nat)(C R:Int)(s:ByteArray):Prop:=w.heap[b]?=some (.cells #[.int .i64 C,.int .i64 R,.string s] 24 (0,0))
theorem Ab.sT{w w':World}{b:Nat}{C R:Int}{s:ByteArray}(h:Ab w b C R s)(hs:Yc w w'):Ab w' b C R s:=hs.kept_still h
theorem Ab.cells{w:World}{b:Nat}{C R:Int}{s:ByteArray}(h:Ab w b C R s) :
  w.cell? ⟨b,0,none⟩=some (.int .i64 C)/\w.cell? ⟨b,1,none⟩=some (.int .i64 R)/\w.cell? ⟨b,2,none⟩=some (.string s)/\∀o,w.frozen? ⟨b,o,none⟩=false:=by
 refine⟨?_,?_,?_,fun o=>frozen_of_row w b o _ _ h⟩<;>(rw[cell_of_row _ _ _ _ _ _ h];rfl)
abbrev Yi(w:World)(C R:Int)(s:ByteArray):World:=w.alloc (.cells #[.int .i64 C,.int .i64 R,.string s] 24)
theorem YA(w:World)(C R:Int)(s:ByteArray):Ab (Yi w C R s) w.heap.size C R s:=heap_alloc_new w _
theorem VU(n:Int)(h0:-9223372036854775808<=n)(h1:n<=9223372036854775807)(w:World):Yb 197 #[.int .i64 n] w (.int .i64 (dn n)):=by
 have e:=AU n;have b:-2251799813685248<=n.tdiv 4096/\n.tdiv 4096<=2251799813685247:=by
  rcases Int.le_total 0 n with h|h
  ·rw[Int.tdiv_eq_ediv_of_nonneg h];omega
  ·have e:n.tdiv 4096=-((-n) / 4096):=by
    rw[<- Int.tdiv_eq_ediv_of_nonneg (show 0 <= -n by omega),Int.neg_tdiv];omega
   omega
 obtain⟨b0,b1⟩:=b;clear h0 h1;by_cases h:n<n.tdiv 4096*4096
 ·rw[if_pos h]at e;rw[<- e];clear e;go_enter Tryz.func197,Tryz.ntmps197;go_wp2
  go_ret;exact⟨rfl,rfl⟩
 ·rw[if_neg h]at e;rw[<- e];clear e;go_enter Tryz.func197,Tryz.ntmps197;go_wp2
  go_ret;exact⟨rfl,rfl⟩
def byt(s:ByteArray)(n:Nat):Int:=((s.data.toList.getD n 0).toNat:Int)
theorem AW(s:ByteArray)(n:Nat)(h:n<s.size):s.data.toList[n]?=some s[n]:=by
 rw[Array.getElem?_toList,Array.getElem?_eq_getElem h];rfl
theorem ZJ(s:ByteArray)(n:Nat)(h:n<s.size):((s[n]'h).toNat:Int)=byt s n:=by
 unfold byt;rw[List.getD_eq_getElem?_getD,AW s n h];rfl
theorem AX(C R col row:Int)(s:ByteArray)(k:Nat)(h0:0<=row*C)(hc:0<=col)(hk:row*C+col=(k:Int))(hs:k<s.size)(hz:s.size<=9223372036854775807)(w:World) :
  Ya 261 #[ar C R s,.int .i64 col,.int .i64 row] w (.int .u8 (byt s k)):=by
 have e:=ZJ s k hs;have h1:row*C<=9223372036854775807:=by omega
 go_enter Tryz.func261,Tryz.ntmps261;go_wp2_with fail;go_ret;exact⟨rfl,sA w _⟩
def Yg(C R:Int)(s:ByteArray)(col row:Int):Bool:=if col<0\/C<=col\/row<0\/R<=row then true else if(s.size:Int)<=row*C+col then true else byt s (row*C+col).toNat == 35
theorem XW{C R col row:Int}{s:ByteArray}(h:col<0\/C<=col\/row<0\/R<=row):Yg C R s col row=true:=by unfold Yg;rw[if_pos h]
theorem Jw{C R col row:Int}{s:ByteArray}(h:(s.size:Int)<=row*C+col):Yg C R s col row=true:=by
 unfold Yg;by_cases k:col<0\/C<=col\/row<0\/R<=row
 ·rw[if_pos k]
 ·rw[if_neg k,if_pos h]
theorem Gv{C R col row:Int}{s:ByteArray}{k:Nat}(h:¬(col<0\/C<=col\/row<0\/R<=row))(hk:row*C+col=(k:Int))(hs:k<s.size):Yg C R s col row=(byt s k == 35):=by
 unfold Yg;rw[if_neg h,if_neg (by omega),hk];rfl
theorem AY(C R col row:Int)(s:ByteArray)(h1:col<0)(w:World):Ya 196 #[ar C R s,.int .i64 col,.int .i64 row] w (.bool true):=by
 go_enter Tryz.func196,Tryz.ntmps196;go_wp2_with fail;go_ret;exact⟨rfl,sA w _⟩
theorem AZ(C R col row:Int)(s:ByteArray)(h1:0<=col)(h2:C<=col)(w:World):Ya 196 #[ar C R s,.int .i64 col,.int .i64 row] w (.bool true):=by
 go_enter Tryz.func196,Tryz.ntmps196;go_wp2_with fail;go_ret;exact⟨rfl,sA w _⟩
theorem Ia(C R col row:Int)(s:ByteArray)(h1:0<=col)(h2:col<C)(h3:row<0)(w:World):Ya 196 #[ar C R s,.int .i64 col,.int .i64 row] w (.bool true):=by
 go_enter Tryz.func196,Tryz.ntmps196;go_wp2_with fail;go_ret;exact⟨rfl,sA w _⟩
theorem Ib(C R col row:Int)(s:ByteArray)(h1:0<=col)(h2:col<C)(h3:0<=row)(h4:R<=row)(w:World):Ya 196 #[ar C R s,.int .i64 col,.int .i64 row] w (.bool true):=by
 go_enter Tryz.func196,Tryz.ntmps196;go_wp2_with fail;go_ret;exact⟨rfl,sA w _⟩
theorem Ic(C R col row:Int)(s:ByteArray)(h1:0<=col)(h2:col<C)(h3:0<=row)(h4:row<R)(h5:(s.size:Int)<C)(h6:0<row)(w:World):Ya 196 #[ar C R s,.int .i64 col,.int .i64 row] w (.bool true):=by
 go_enter Tryz.func196,Tryz.ntmps196;go_wp2_with fail;go_ret;exact⟨rfl,sA w _⟩
theorem Ie(C R col row:Int)(s:ByteArray)(h1:0<=col)(h2:col<C)(h3:0<=row)(h4:row<R)(h5:¬((s.size:Int)<C/\0<row))(hz:s.size<=281474976710656)(h6:(s.size:Int) / C<row)(w:World):Ya 196 #[ar C R s,.int .i64 col,.int .i64 row] w (.bool true):=by
 have e:((s.size:Nat):Int).tdiv C=(s.size:Int) / C:=Int.tdiv_eq_ediv_of_nonneg (by omega);have q0:0<=(s.size:Int) / C:=Int.ediv_nonneg (by omega) (by omega);have q1:(s.size:Int) / C<=(s.size:Int):=Int.ediv_le_self _ (by omega);have hp:(decide ((s.size:Int)<C)=false)\/(decide ((s.size:Int)<C)=true/\decide (0<row)=false):=by
  by_cases k:(s.size:Int)<C
  ·exact .inr ⟨by simpa using k,by simp;omega⟩
  ·exact .inl (by simpa using k)
 clear h5;rcases hp with hp|⟨hp,hp2⟩;all_goals
  go_enter Tryz.func196,Tryz.ntmps196;go_wp2_with fail;go_ret;exact⟨rfl,sA w _⟩
theorem Ig(C R col row:Int)(s:ByteArray)(h1:0<=col)(h2:col<C)(h3:0<=row)(h4:row<R)(h5:¬((s.size:Int)<C/\0<row))(hz:s.size<=281474976710656)(h6:row<=(s.size:Int) / C)(h7:(s.size:Int)<=row*C+col)(c0:C<=9223372036854775807)(w:World):Ya 196 #[ar C R s,.int .i64 col,.int .i64 row] w (.bool true):=by
 have e:((s.size:Nat):Int).tdiv C=(s.size:Int) / C:=Int.tdiv_eq_ediv_of_nonneg (by omega);have q0:0<=(s.size:Int) / C:=Int.ediv_nonneg (by omega) (by omega);have q1:(s.size:Int) / C<=(s.size:Int):=Int.ediv_le_self _ (by omega);have hp:(decide ((s.size:Int)<C)=false)\/(decide ((s.size:Int)<C)=true/\decide (0<row)=false):=by
  by_cases k:(s.size:Int)<C
  ·exact .inr ⟨by simpa using k,by simp;omega⟩
  ·exact .inl (by simpa using k)
 have m0:0<=row*C:=Int.mul_nonneg h3 (by omega);have m1:row*C<=(s.size:Int):=Int.le_trans (Int.mul_le_mul_of_nonneg_right h6 (by omega)) (Int.ediv_mul_le _ (by omega));have m2:row*C+col<=9223372036854775807:=by
  by_cases k:(s.size:Int)<C
  ·have:row=0:=by omega
   subst this;omega
  ·omega
 clear h5;rcases hp with hp|⟨hp,hp2⟩;all_goals
  go_enter Tryz.func196,Tryz.ntmps196;go_wp2_with fail;go_ret;exact⟨rfl,sA w _⟩
theorem Ih(C R col row:Int)(s:ByteArray)(h1:0<=col)(h2:col<C)(h3:0<=row)(h4:row<R)(h5:¬((s.size:Int)<C/\0<row))(hz:s.size<=281474976710656)(h6:row<=(s.size:Int) / C)(k:Nat)(hk:row*C+col=(k:Int))(hs:k<s.size)(w:World):Ya 196 #[ar C R s,.int .i64 col,.int .i64 row] w (.bool (byt s k == 35)):=by
 have e:((s.size:Nat):Int).tdiv C=(s.size:Int) / C:=Int.tdiv_eq_ediv_of_nonneg (by omega);have q0:0<=(s.size:Int) / C:=Int.ediv_nonneg (by omega) (by omega);have q1:(s.size:Int) / C<=(s.size:Int):=Int.ediv_le_self _ (by omega);have m0:0<=row*C:=Int.mul_nonneg h3 (by omega);have m1:row*C<=(s.size:Int):=by omega
 have hks:(k:Int)<(s.size:Int):=by omega
 have hp:(decide ((s.size:Int)<C)=false)\/(decide ((s.size:Int)<C)=true/\decide (0<row)=false):=by
  by_cases k:(s.size:Int)<C
  ·exact .inr ⟨by simpa using k,by simp;omega⟩
  ·exact .inl (by simpa using k)
 have HC:=hid (fun u=>AX C R col row s k m0 h1 hk hs (by omega) u);clear h5;rcases hp with hp|⟨hp,hp2⟩;all_goals
  go_enter Tryz.func196,Tryz.ntmps196;go_wp2_with fail;refine(HC.o _).mono ?_;rintro e w1 ⟨rfl,h⟩;go_wp2_with fail;go_ret;exact⟨rfl,(sA w _).trans h⟩
theorem Ii(C R col row:Int)(s:ByteArray)(hz:s.size<=281474976710656)(hC:C<=9223372036854775807)(w:World):Ya 196 #[ar C R s,.int .i64 col,.int .i64 row] w (.bool (Yg C R s col row)):=by
 by_cases h1:col<0
 ·rw[XW (by omega)];exact AY C R col row s h1 w
 by_cases h2:C<=col
 ·rw[XW (by omega)];exact AZ C R col row s (by omega) h2 w
 by_cases h3:row<0
 ·rw[XW (by omega)];exact Ia C R col row s (by omega) (by omega) h3 w
 by_cases h4:R<=row
 ·rw[XW (by omega)];exact Ib C R col row s (by omega) (by omega) (by omega) h4 w
 have n1:0<=row*C:=Int.mul_nonneg (by omega) (by omega);by_cases h5:(s.size:Int)<C/\0<row
 ·have:C*1<=C*row:=Int.mul_le_mul_of_nonneg_left (by omega) (by omega);rw[Int.mul_comm C row]at this;rw[Jw (by omega)];exact Ic C R col row s (by omega) (by omega) (by omega) (by omega) h5.1 h5.2 w
 by_cases h6:(s.size:Int) / C<row
 ·have:(s.size:Int)<row*C:=by
   have:=Int.lt_mul_of_ediv_lt (show 0<C by omega) h6;exact this
  rw[Jw (by omega)];exact Ie C R col row s (by omega) (by omega) (by omega) (by omega) h5 hz h6 w
 by_cases h7:(s.size:Int)<=row*C+col
 ·rw[Jw h7];exact Ig C R col row s (by omega) (by omega) (by omega) (by omega) h5 hz (by omega) h7 hC w
 ·obtain⟨k,hk⟩:∃k:Nat,row*C+col=(k:Int):=⟨(row*C+col).toNat,by omega⟩;rw[Gv (k:=k) (by omega) hk (by omega)];exact Ih C R col row s (by omega) (by omega) (by omega) (by omega) h5 hz (by omega) k hk (by omega) w
def Gw(C R:Int)(s:ByteArray)(a b c d:Int):Bool:=okb a b c d && tch (Yg C R s) a b c d
theorem ZK{a b:Bool}(h:a=b):Ending.returned (.bool a)=.returned (.bool b):=by rw[h]
theorem UF(C R col row:Int)(s:ByteArray)(hz:s.size<=281474976710656)(hC:C<=9223372036854775807){t:Bool}(h:Yg C R s col row=t)(w:World):Ya 196 #[ar C R s,.int .i64 col,.int .i64 row] w (.bool t):=by
 have:=Ii C R col row s hz hC w;rw[h]at this;exact this
theorem WX(a b c d:Int)(h:okb a b c d=true)(w:World):Ya 198 #[bx a b c d] w (.int .i64 0):=by
 have:=UC a b c d w;unfold chk at this;rw[h]at this;exact this
theorem Ij(a b c d:Int)(h:okb a b c d=false)(w:World):Ya 198 #[bx a b c d] w (.int .i64 50):=by
 have:=UC a b c d w;unfold chk at this;rw[h]at this;exact this
theorem Ik(C R a b c d:Int)(s:ByteArray)(h:okb a b c d=false)(w:World):Ya 260 #[ar C R s,bx a b c d] w (.bool false):=by
 go_enter Tryz.func260,Tryz.ntmps260;go_wp2_with fail;refine(Ij a b c d h _).mono ?_;rintro e w1 ⟨rfl,h1⟩;go_wp2_with fail;go_ret;exact⟨rfl,((sA w _).trans (sA _ _)).trans h1⟩
theorem Il(C R a b c d:Int)(s:ByteArray)(h:okb a b c d=true)(ho:dn a<0\/dn b<0\/C<=dn c\/R<=dn d)(w:World):Ya 260 #[ar C R s,bx a b c d] w (.bool true):=by
 have k:=VN h;unfold okB at k;obtain⟨k0,k1,k2,k3,k4,k5,k6,k7,k8,k9⟩:=k;have p:=(YA w C R s).sT (sA (Yi w C R s) (.cells #[.int .i64 a,.int .i64 b,.int .i64 c,.int .i64 d] 172));have q:=Xy (Yi w C R s) a b c d;simp only[size_alloc]at q;have HS0:=hid ((sA w (.cells #[.int .i64 C,.int .i64 R,.string s] 24)).trans (sA (Yi w C R s) (.cells #[.int .i64 a,.int .i64 b,.int .i64 c,.int .i64 d] 172)));have H:=hid h;have ho':(decide (dn a<0)=true)\/(decide (dn a<0)=false/\decide (dn b<0)=true)\/(decide (dn a<0)=false/\decide (dn b<0)=false/\decide (C<=dn c)=true)\/(decide (dn a<0)=false/\decide (dn b<0)=false/\decide (C<=dn c)=false/\decide (R<=dn d)=true):=by
  by_cases x1:dn a<0
  ·exact .inl (by simpa using x1)
  by_cases x2:dn b<0
  ·exact .inr (.inl ⟨by simpa using x1,by simpa using x2⟩)
  by_cases x3:C<=dn c
  ·exact .inr (.inr (.inl ⟨by simpa using x1,by simpa using x2,by simpa using x3⟩))
  ·exact .inr (.inr (.inr ⟨by simpa using x1,by simpa using x2,by simpa using x3,by simp;omega⟩))
 clear h ho;go_enter Tryz.func260,Tryz.ntmps260;go_wp2_with fail;refine(WX a b c d H.o _).mono ?_;rintro e w1 ⟨rfl,h1⟩;obtain⟨c0,c1,c2,cf⟩:=(p.sT h1).cells;obtain⟨d0,d1,d2,d3,df⟩:=(q.sT h1).cells;have HS1:=hid (HS0.o.trans h1);clear p q HS0 h1;rcases ho' with x1|⟨x1,x2⟩|⟨x1,x2,x3⟩|⟨x1,x2,x3,x4⟩;all_goals
  go_wp2_with (go_at_call 197;refine(VU _ (by omega) (by omega) _).mono ?_;rintro e w' ⟨he,hw⟩;rw[he,hw];clear he hw w');go_ret;exact⟨rfl,HS1.o⟩
theorem Im(C R a b c d:Int)(s:ByteArray)(hz:s.size<=281474976710656)(hC:C<=9223372036854775807)(h:okb a b c d=true)(x1:0<=dn a)(x2:0<=dn b)(x3:dn c<C)(x4:dn d<R)(w:World) :
    Ya 260 #[ar C R s,bx a b c d] w (.bool (tch (Yg C R s) a b c d)):=by
  have k:=VN h;unfold okB at k;obtain⟨k0,k1,k2,k3,k4,k5,k6,k7,k8,k9⟩:=k;have p:=(YA w C R s).sT (sA (Yi w C R s) (.cells #[.int .i64 a,.int .i64 b,.int .i64 c,.int .i64 d] 172));have q:=Xy (Yi w C R s) a b c d;simp only[size_alloc]at q;have HS0:=hid ((sA w (.cells #[.int .i64 C,.int .i64 R,.string s] 24)).trans (sA (Yi w C R s) (.cells #[.int .i64 a,.int .i64 b,.int .i64 c,.int .i64 d] 172)));have H:=hid h;have lr:=UD k8;have tb:=UD k9;have bc:=(Vv k4 k5).2;have bd:=(Vv k6 k7).2;obtain⟨T,eT⟩:∃T,T=tch (Yg C R s) a b c d:=⟨_,rfl⟩;have HT:=hid (show T=Vw (Yg C R s) (dn a) (dn b) (dn c) (dn d)from eT);rw[<- eT];clear h eT;go_enter Tryz.func260,Tryz.ntmps260;go_wp2_with fail;refine(WX a b c d H.o _).mono ?_;rintro e w1 ⟨rfl,h1⟩;have p1:=p.sT h1;obtain⟨c0,c1,c2,cf⟩:=p1.cells;obtain⟨d0,d1,d2,d3,df⟩:=(q.sT h1).cells;have HS1:=hid (HS0.o.trans h1);clear p q HS0 h1 H;go_wp2_with (go_at_call 197;refine(VU _ (by omega) (by omega) _).mono ?_;rintro e w' ⟨he,hw⟩;rw[he,hw];clear he hw w');clear k0 k1 k2 k3 k4 k5 k6 k7 k8 k9 d0 d1 d2 d3 df c0 c1 c2 cf;obtain⟨l,el⟩:∃l,dn a=l:=⟨_,rfl⟩;obtain⟨t,et⟩:∃t,dn b=t:=⟨_,rfl⟩;obtain⟨r,er⟩:∃r,dn c=r:=⟨_,rfl⟩;obtain⟨u,eu⟩:∃u,dn d=u:=⟨_,rfl⟩;rw[el]at x1 lr HT⊢;rw[et]at x2 tb HT⊢;rw[er]at x3 lr bc HT⊢;rw[eu]at x4 tb bd HT⊢;clear el et er eu;go_loopw [10] (fun vj wr=>∃j:Int,t<=j/\j<=u+1/\vj=.int .i64 j/\(∀i' j',l<=i'->i' <= r->t<=j'->j' < j->Yg C R s i' j'=false)/\Yc w1 wr) (fun vj _=>(u+1-intOf vj).toNat);case atStart=>exact⟨t,by omega,by omega,rfl,fun i' j' _ _ h1 h2=>by omega,Fr.refl _ _⟩
  case round =>
    obtain⟨j,hj1,hj2,rfl,hfree,hs⟩:=hrel;have HF:=hid hfree;have HS:=hid hs;have p2:=p1.sT hs;clear hfree hs;by_cases hlt:j<=u
    · obtain⟨c0,c1,c2,cf⟩:=p2.cells
      go_wp2_with fail;go_loopw [11] (fun vi wt=>∃i:Int,l<=i/\i<=r+1/\vi=.int .i64 i/\(∀i',l<=i'->i' < i->Yg C R s i' j=false)/\Yc wr wt) (fun vi _=>(r+1-intOf vi).toNat);case atStart=>exact⟨l,by omega,by omega,rfl,fun i' h1 h2=>by omega,Fr.refl _ _⟩
      case round =>
        obtain⟨i,hi1,hi2,rfl,hfr,hs2⟩:=hrel;have HF2:=hid hfr;have HS2:=hid hs2;obtain⟨g0,g1,g2,gf⟩:=(p2.sT hs2).cells;clear hfr hs2 c0 c1 c2 cf;by_cases hil:i<=r
        · go_wp2_with fail
          cases hsol:Yg C R s i j with
          | true =>
            refine(UF C R i j s hz hC hsol _).mono ?_;rintro e w3 ⟨rfl,h3⟩;have HE:=hid (show true=T by rw[HT.o];exact(anyC_iff.2 ⟨i,j,hi1,hil,hj1,hlt,hsol⟩).symm);have HS3:=hid (((HS1.o.trans HS.o).trans HS2.o).trans h3);clear hsol h3 g0 g1 g2 gf;go_wp2_with fail;go_ret;exact⟨ZK HE.o,HS3.o⟩
          | false =>
            refine(UF C R i j s hz hC hsol _).mono ?_;rintro e w3 ⟨rfl,h3⟩;have HS3:=hid (HS2.o.trans h3);have HN:=hid hsol;clear hsol h3 g0 g1 g2 gf;go_wp2_with fail;go_roundw;case rel => exact⟨i + 1, by omega, by omega, by go_num, fun i' h1 h2 => by
                by_cases e:i'=i
                · subst e;exact HN.o
                · exact HF2.o i' h1 (by omega),HS3.o⟩
            case measure=>simp[intOf];omega
        · have hi:i=r+1:=by omega
          clear g0 g1 g2 gf;go_wp2_with fail;go_roundw;case rel => exact⟨j + 1, by omega, by omega, by go_num, fun i' j' h1 h2 h3 h4 => by
              by_cases e:j'=j
              · subst e;exact HF2.o i' h1 (by omega)
              · exact HF.o i' j' h1 h2 h3 (by omega),HS.o.trans HS2.o⟩
          case measure=>simp[intOf];omega
    · have HE:=hid (show false=T by rw[HT.o];exact(Gt fun i' j' h1 h2 h3 h4=>HF.o i' j' h1 h2 h3 (by omega)).symm)
      clear p2;go_wp2_with fail;go_ret;exact⟨ZK HE.o,HS1.o.trans HS.o⟩
theorem Io(C R a b c d:Int)(s:ByteArray)(hz:s.size<=281474976710656)(hC:C<=9223372036854775807)(w:World) :
  Ya 260 #[ar C R s,bx a b c d] w (.bool (Gw C R s a b c d)):=by
 unfold Gw;cases h:okb a b c d with
 | false=>exact Ik C R a b c d s h w
 | true =>
  rw[Bool.true_and];have k:=VN h;unfold okB at k;have lr:=UD (show a<=c by omega);have tb:=UD (show b<=d by omega);by_cases ho:dn a<0\/dn b<0\/C<=dn c\/R<=dn d
  ·have:tch (Yg C R s) a b c d=true:=by
    unfold tch;rcases ho with o|o|o|o
    ·exact anyC_iff.2 ⟨dn a,dn b,Int.le_refl _,lr,Int.le_refl _,tb,XW (.inl o)⟩
    ·exact anyC_iff.2 ⟨dn a,dn b,Int.le_refl _,lr,Int.le_refl _,tb,XW (.inr (.inr (.inl o)))⟩
    ·exact anyC_iff.2 ⟨dn c,dn b,lr,Int.le_refl _,Int.le_refl _,tb,XW (.inr (.inl o))⟩
    ·exact anyC_iff.2 ⟨dn a,dn d,Int.le_refl _,lr,tb,Int.le_refl _,XW (.inr (.inr (.inr o)))⟩
   rw[this];exact Il C R a b c d s h ho w
  ·exact Im C R a b c d s hz hC h (by omega) (by omega) (by omega) (by omega) w
theorem Ip(n:Int):bits .and .i64 n 4095=n % 4096:=by
 have h15:(BitVec.ofInt 64 4095).toNat=2 ^ 12-1:=by decide
 have key:(BitVec.ofInt 64 n &&& BitVec.ofInt 64 4095).toNat=(n % ((2 ^ 64:Nat):Int)).toNat % 2 ^ 12:=by
  rw[BitVec.toNat_and,BitVec.toNat_ofInt,h15,Nat.and_two_pow_sub_one_eq_mod]
 show IntKind.i64.wrap ((BitVec.ofInt 64 n &&& BitVec.ofInt 64 4095).toNat:Nat)=n % 4096;rw[key,IntKind.wrap_i64];omega
theorem Jy(n:Int)(w:World):Yb 334 #[.int .i64 n] w (.int .i64 (n % 4096)):=by
 rw[<- Ip n];go_enter Tryz.func334,Tryz.ntmps334;go_wp2
 go_ret;exact⟨rfl,rfl⟩
theorem WY(n:Int):(n-n % 4096).tdiv 4096=dn n:=by
 unfold dn;have e:n-n % 4096=n / 4096*4096:=by omega
 rw[e,Int.mul_tdiv_cancel _ (by omega)]
theorem Iq(C R col row:Int)(s:ByteArray)(h:col<0\/C<=col\/row<0\/R<=row)(w:World):Ya 208 #[ar C R s,.int .i64 col,.int .i64 row] w (.bool true):=by
 have ho':(decide (col<0)=true)\/(decide (col<0)=false/\decide (C<=col)=true)\/(decide (col<0)=false/\decide (C<=col)=false/\decide (row<0)=true)\/(decide (col<0)=false/\decide (C<=col)=false/\decide (row<0)=false/\decide (R<=row)=true):=by
  by_cases x1:col<0
  ·exact .inl (by simpa using x1)
  by_cases x2:C<=col
  ·exact .inr (.inl ⟨by simpa using x1,by simpa using x2⟩)
  by_cases x3:row<0
  ·exact .inr (.inr (.inl ⟨by simpa using x1,by simpa using x2,by simpa using x3⟩))
  ·exact .inr (.inr (.inr ⟨by simpa using x1,by simpa using x2,by simpa using x3,by simp;omega⟩))
 clear h;rcases ho' with x1|⟨x1,x2⟩|⟨x1,x2,x3⟩|⟨x1,x2,x3,x4⟩;all_goals
  go_enter Tryz.func208,Tryz.ntmps208;go_wp2_with fail;go_ret;exact⟨rfl,sA w _⟩
theorem Ir(C R col row:Int)(s:ByteArray)(h1:0<=col)(h2:col<C)(h3:0<=row)(h4:row<R)(h5:(s.size:Int)<=col)(w:World):Ya 208 #[ar C R s,.int .i64 col,.int .i64 row] w (.bool true):=by
 go_enter Tryz.func208,Tryz.ntmps208;go_wp2_with fail;go_ret;exact⟨rfl,sA w _⟩
theorem Is(C R col row:Int)(s:ByteArray)(h1:0<=col)(h2:col<C)(h3:0<=row)(h4:row<R)(h5:col<(s.size:Int))(hz:s.size<=281474976710656)(h6:((s.size:Int)-1-col) / C<row)(w:World):Ya 208 #[ar C R s,.int .i64 col,.int .i64 row] w (.bool true):=by
 have e:((s.size:Int)-1-col).tdiv C=((s.size:Int)-1-col) / C:=Int.tdiv_eq_ediv_of_nonneg (by omega);have q0:0<=((s.size:Int)-1-col) / C:=Int.ediv_nonneg (by omega) (by omega);have q1:((s.size:Int)-1-col) / C<=(s.size:Int)-1-col:=Int.ediv_le_self _ (by omega);go_enter Tryz.func208,Tryz.ntmps208;go_wp2_with fail;go_ret;exact⟨rfl,sA w _⟩
theorem It(C R col row:Int)(s:ByteArray)(h1:0<=col)(h2:col<C)(h3:0<=row)(h4:row<R)(h5:col<(s.size:Int))(hz:s.size<=281474976710656)(h6:row<=((s.size:Int)-1-col) / C)(k:Nat)(hk:row*C+col=(k:Int))(hs:k<s.size)(w:World):Ya 208 #[ar C R s,.int .i64 col,.int .i64 row] w (.bool (byt s k == 35)):=by
 have e:((s.size:Int)-1-col).tdiv C=((s.size:Int)-1-col) / C:=Int.tdiv_eq_ediv_of_nonneg (by omega);have q0:0<=((s.size:Int)-1-col) / C:=Int.ediv_nonneg (by omega) (by omega);have q1:((s.size:Int)-1-col) / C<=(s.size:Int)-1-col:=Int.ediv_le_self _ (by omega);have m0:0<=row*C:=Int.mul_nonneg h3 (by omega);have m1:row*C<=(s.size:Int):=by omega
 have hks:(k:Int)<(s.size:Int):=by omega
 have eb:=ZJ s k hs;go_enter Tryz.func208,Tryz.ntmps208;go_wp2_with fail;go_ret;exact⟨rfl,sA w _⟩
theorem Iu(C R col row:Int)(s:ByteArray)(hz:s.size<=281474976710656)(w:World):Ya 208 #[ar C R s,.int .i64 col,.int .i64 row] w (.bool (Yg C R s col row)):=by
 by_cases h:col<0\/C<=col\/row<0\/R<=row
 ·rw[XW h];exact Iq C R col row s h w
 have n1:0<=row*C:=Int.mul_nonneg (by omega) (by omega);by_cases h5:(s.size:Int)<=col
 ·rw[Jw (by omega)];exact Ir C R col row s (by omega) (by omega) (by omega) (by omega) h5 w
 by_cases h6:((s.size:Int)-1-col) / C<row
 ·have:(s.size:Int)-1-col<row*C:=Int.lt_mul_of_ediv_lt (show 0<C by omega) h6;rw[Jw (by omega)];exact Is C R col row s (by omega) (by omega) (by omega) (by omega) (by omega) hz h6 w
 ·have m1:row*C<=(s.size:Int)-1-col:=Int.le_trans (Int.mul_le_mul_of_nonneg_right (show row<=((s.size:Int)-1-col) / C by omega) (by omega)) (Int.ediv_mul_le _ (by omega));obtain⟨k,hk⟩:∃k:Nat,row*C+col=(k:Int):=⟨(row*C+col).toNat,by omega⟩;rw[Gv (k:=k) h hk (by omega)];exact It C R col row s (by omega) (by omega) (by omega) (by omega) (by omega) hz (by omega) k hk (by omega) w
theorem Xq(C R col row:Int)(s:ByteArray)(hz:s.size<=281474976710656){t:Bool}(h:Yg C R s col row=t)(w:World):Ya 208 #[ar C R s,.int .i64 col,.int .i64 row] w (.bool t):=by
 have:=Iu C R col row s hz w;rw[h]at this;exact this
theorem WZ(x y r:Int)(h0:0<=r)(h1:r<=4096):okb (Ye x r) (Ye y r) (Yd x r) (Yd y r)=true:=by
 refine Gb ?_;have er:=bnd_id (n:=r) (by omega) (by omega);unfold okB Ye Yd;exact⟨Yn _,Yo _,Yn _,Yo _,Yn _,Yo _,Yn _,Yo _,VL (by omega),VL (by omega)⟩
theorem Iv(x y r:Int)(h0:0<=r)(h1:r<=4096)(w:World):Ya 132 #[pt x y,.int .i64 r] w (bx (Ye x r) (Ye y r) (Yd x r) (Yd y r)):=by
 have h:=Gs x y r w;have e:Yl r 0 2147483647=r:=by
  unfold Yl;rw[bnd_id (n:=r) (by omega) (by omega),show bnd 0=0 by decide,show bnd 2147483647=2147483647 by decide];repeat' split
  all_goals omega
 rw[e]at h;exact h
theorem Ba{w:World}{b g:Nat}{C R:Int}{s:ByteArray}(h:Ab w b C R s)(hb:b≠g)(x y z u:Int):Ab (setB w g x y z u) b C R s:=by
 unfold Ab;rw[heap_setCell_other _ _ _ _ hb,heap_setCell_other _ _ _ _ hb,heap_setCell_other _ _ _ _ hb,heap_setCell_other _ _ _ _ hb];exact h
theorem K3{w:World}{b g:Nat}{p q:Int}(h:Pb w b p q)(hb:b≠g)(x y z u:Int):Pb (setB w g x y z u) b p q:=by
 unfold Pb;rw[heap_setCell_other _ _ _ _ hb,heap_setCell_other _ _ _ _ hb,heap_setCell_other _ _ _ _ hb,heap_setCell_other _ _ _ _ hb];exact h
theorem Gy{w:World}{b g:Nat}{p q p' q':Int}(h:Bb w b p q p' q')(hb:b≠g)(x y z u:Int):Bb (setB w g x y z u) b p q p' q':=by
 unfold Bb;rw[heap_setCell_other _ _ _ _ hb,heap_setCell_other _ _ _ _ hb,heap_setCell_other _ _ _ _ hb,heap_setCell_other _ _ _ _ hb];exact h
theorem Bc{x y z u x' y' z' u':Int}{t:Bool}(h:((x == x' && y == y') && (z == z' && u == u'))=t)(w:World):(binOp .eql 172 (bx x y z u) (bx x' y' z' u')).run Tryz.prog w=.ok (.bool t) w:=by
 rw[Ax,h]
theorem Iw(C R x y r:Int)(s:ByteArray)(hz:s.size<=281474976710656)(hC:C<=9223372036854775807)(h0:0<=r)(h1:r<=4096){t:Bool}(h:bdy (Yg C R s) r x y=t)(w:World) :
  Ya 260 #[ar C R s,bx (Ye x r) (Ye y r) (Yd x r) (Yd y r)] w (.bool t):=by
 have k:=Io C R (Ye x r) (Ye y r) (Yd x r) (Yd y r) s hz hC w;unfold Gw at k;rw[WZ x y r h0 h1,Bool.true_and]at k;unfold bdy at h;rw[h]at k;exact k
def cl1(x r:Int):Int:=dn (Ye x r)
def cl2(x r:Int):Int:=dn (Yd x r)
theorem Ix{sol:Int->Int->Bool}{r x y x' y':Int}(h1:cl1 x r=cl1 x' r)(h2:cl1 y r=cl1 y' r)(h3:cl2 x r=cl2 x' r)(h4:cl2 y r=cl2 y' r):bdy sol r x y=bdy sol r x' y':=by
 unfold bdy tch;unfold cl1 cl2 at *
 rw[h1,h2,h3,h4]
def atS(x s:Int)(j:Nat):Int:=Yd x (s*(j:Int))
def X4(f:Nat->Int)(k:Nat):Int:=if k<=1 then 0 else f (k-1)
theorem Bd(C R x y a b r:Int)(s:ByteArray)(n:Nat)(hz:s.size<=281474976710656)(hC:C<=9223372036854775807)(r0:0<=r)(r1:r<=4096)(a0:-1<=a)(a1:a<=1)(b0:-1<=b)(b1:b<=1)(hn:n<=2048)(w:World) :
    Ya 194 #[ar C R s,pt x y,pt a b,.int .i64 (n:Int),.int .i64 r] w (.int .i64 (go (fun j=>bdy (Yg C R s) r (atS x a j) (atS y b j)) n:Nat)):=by
  obtain⟨t,et⟩:∃t:Nat->Bool,t=fun j=>bdy (Yg C R s) r (atS x a j) (atS y b j):=⟨_,rfl⟩;have HT:=hid (show ∀j,t j=bdy (Yg C R s) r (atS x a j) (atS y b j)from fun j=>by rw[et]);rw[<- et];have p:=((YA w C R s).sT (sA (Yi w C R s) (.cells #[.int .i64 x,.int .i64 y] 57))).sT (sA (Yh (Yi w C R s) x y) (.cells #[.int .i64 a,.int .i64 b] 57)) |>.sT (sA (Yh (Yh (Yi w C R s) x y) a b) (.cells #[.int .i64 0,.int .i64 0,.int .i64 0,.int .i64 0] 172));have q:=((Ys (Yi w C R s) x y).sT (sA (Yh (Yi w C R s) x y) (.cells #[.int .i64 a,.int .i64 b] 57))).sT (sA (Yh (Yh (Yi w C R s) x y) a b) (.cells #[.int .i64 0,.int .i64 0,.int .i64 0,.int .i64 0] 172));have v:=(Ys (Yh (Yi w C R s) x y) a b).sT (sA (Yh (Yh (Yi w C R s) x y) a b) (.cells #[.int .i64 0,.int .i64 0,.int .i64 0,.int .i64 0] 172));have l:=Xy (Yh (Yh (Yi w C R s) x y) a b) 0 0 0 0;simp only[size_alloc]at q v l;have HS0:=hid ((((sA w (.cells #[.int .i64 C,.int .i64 R,.string s] 24)).trans (sA (Yi w C R s) (.cells #[.int .i64 x,.int .i64 y] 57))).trans (sA (Yh (Yi w C R s) x y) (.cells #[.int .i64 a,.int .i64 b] 57))).trans (sA (Yh (Yh (Yi w C R s) x y) a b) (.cells #[.int .i64 0,.int .i64 0,.int .i64 0,.int .i64 0] 172)));obtain⟨W,eW⟩:∃W,W=U2 (Yh (Yh (Yi w C R s) x y) a b) 0 0 0 0:=⟨_,rfl⟩;simp only[Yh,U2,Yi]at p q v l HS0 eW;rw[<- eW]at p q v l HS0;have HW:=hid eW;unfold Ya;go_in
  go_wp21
  rw[<- HW.o];go_loopw [12] (fun vk wr => ∃k : Nat, 1 <= k /\ k <= n + 1 /\ vk = .int .i64 (k : Int) /\ (∀j, 1 <= j -> j < k -> t j = false) /\ Ab wr w.heap.size C R s /\ Pb wr (w.heap.size + 1) x y /\ Pb wr (w.heap.size + 1 + 1) a b /\
      Bb wr (w.heap.size+1+1+1) (X4 (fun j=>cl1 (atS x a j) r) k) (X4 (fun j=>cl1 (atS y b j) r) k) (X4 (fun j=>cl2 (atS x a j) r) k) (X4 (fun j=>cl2 (atS y b j) r) k)/\Yc w wr) (fun vk _=>n+1-(intOf vk).toNat)
  case atStart=>exact⟨1,by omega,by omega,rfl,fun j h1 h2=>by omega,p,q,v,l,HS0.o⟩
  case round =>
    obtain⟨k,k1,k2,rfl,hfree,p2,q2,v2,l2,hs⟩:=hrel;have HF:=hid hfree;have HS:=hid hs;by_cases hlt:k<=n
    · obtain⟨c0,c1,cf⟩:=q2.cells
      obtain⟨d0,d1,df⟩:=v2.cells;have ka:-2048<=a*(k:Int)/\a*(k:Int)<=2048:=by
        have:a=-1\/a=0\/a=1:=by omega
        rcases this with rfl|rfl|rfl<;>omega
      have kb:-2048<=b*(k:Int)/\b*(k:Int)<=2048:=by
        have:b=-1\/b=0\/b=1:=by omega
        rcases this with rfl|rfl|rfl<;>omega
      obtain⟨ka0,ka1⟩:=ka;obtain⟨kb0,kb1⟩:=kb;go_wp21
      refine(VT x y _ _ _).mono ?_;rintro e w1 ⟨rfl,h1⟩;go_wp21
      refine(Iv _ _ r r0 r1 _).mono ?_;rintro e w2 ⟨rfl,h2⟩;have h12:=h1.trans h2;go_wp21
      obtain⟨X1,eX1⟩:∃X1,Ye (Yd x (a*(k:Int))) r=X1:=⟨_,rfl⟩;obtain⟨Y1,eY1⟩:∃Y1,Ye (Yd y (b*(k:Int))) r=Y1:=⟨_,rfl⟩;obtain⟨X2,eX2⟩:∃X2,Yd (Yd x (a*(k:Int))) r=X2:=⟨_,rfl⟩;obtain⟨Y2,eY2⟩:∃Y2,Yd (Yd y (b*(k:Int))) r=Y2:=⟨_,rfl⟩;have bx1:-2147483647<=X1/\X1<=2147483647:=by rw[<- eX1];exact⟨Yn _,Yo _⟩
      have by1:-2147483647<=Y1/\Y1<=2147483647:=by rw[<- eY1];exact⟨Yn _,Yo _⟩
      have bx2:-2147483647<=X2/\X2<=2147483647:=by rw[<- eX2];exact⟨Yn _,Yo _⟩
      have by2:-2147483647<=Y2/\Y2<=2147483647:=by rw[<- eY2];exact⟨Yn _,Yo _⟩
      have HX:=hid (show(cl1 (atS x a k) r=dn X1/\cl1 (atS y b k) r=dn Y1)/\(cl2 (atS x a k) r=dn X2/\cl2 (atS y b k) r=dn Y2) by
        rw[<- eX1,<- eY1,<- eX2,<- eY2];exact⟨⟨rfl,rfl⟩,⟨rfl,rfl⟩⟩)
      have HQ:Hid (∀v:Bool,t k=v->∀u:World,Ya 260 #[ar C R s,bx X1 Y1 X2 Y2] u (.bool v)):=hid (fun v hv u=>by
        rw[<- eX1,<- eY1,<- eX2,<- eY2];exact Iw C R (atS x a k) (atS y b k) r s hz hC r0 r1 ((HT.o k).symm.trans hv) u)
      rw[eX1,eY1,eX2,eY2];have A3:=sA w2 (.cells #[.int .i64 X1,.int .i64 Y1,.int .i64 X2,.int .i64 Y2] 172);have p3:=(p2.sT h12).sT A3;have q3:=(q2.sT h12).sT A3;have v3:=(v2.sT h12).sT A3;have l3:=(l2.sT h12).sT A3;have b3:=Xy w2 X1 Y1 X2 Y2;have HS3:=hid ((HS.o.trans h12).trans A3);simp only[U2]at b3;obtain⟨W3,eW3⟩:∃W3,w2.alloc (.cells #[.int .i64 X1,.int .i64 Y1,.int .i64 X2,.int .i64 Y2] 172)=W3:=⟨_,rfl⟩;have NB:w.heap.size+1+1+1<w2.heap.size:=by
        have:=Yz (l2.sT h12);exact this
      rw[eW3]at p3 q3 v3 l3 b3 HS3⊢;refine Kx (on:=_) 19 14 (.cells #[.int .i64 0,.int .i64 0,.int .i64 0,.int .i64 0] 172)
        [.pointer (some ⟨w2.heap.size,0,none⟩),.pointer (some ⟨w2.heap.size,0,none⟩),.int .i64 X1,.int .i64 (dn X1),.pointer (some ⟨w2.heap.size,0,none⟩),.pointer (some ⟨w2.heap.size,1,none⟩),.int .i64 Y1,.int .i64 (dn Y1),pt (dn X1) (dn Y1),.pointer (some ⟨w2.heap.size,2,none⟩),.pointer (some ⟨w2.heap.size,2,none⟩),.int .i64 X2,.int .i64 (dn X2),.pointer (some ⟨w2.heap.size,2,none⟩),.pointer (some ⟨w2.heap.size,3,none⟩),.int .i64 Y2,.int .i64 (dn Y2),pt (dn X2) (dn Y2),bx (dn X1) (dn Y1) (dn X2) (dn Y2)]
        ⟨#[ar C R s,pt x y,pt a b,.int .i64 (n:Int),.int .i64 r,.pointer (some ⟨w.heap.size,0,none⟩),.pointer (some ⟨w.heap.size+1,0,none⟩),.pointer (some ⟨w.heap.size+1+1,0,none⟩),undef,undef,u10,.pointer (some ⟨w.heap.size+1+1+1,0,none⟩),.int .i64 (k:Int),.pointer (some ⟨w2.heap.size,0,none⟩),u14,u15,.agg #[.int .i64 0,.int .i64 0,.int .i64 0,.int .i64 0],.int .i64 (k:Int),.int .i64 (n:Int),.bool true,u20,u21,pt x y,.pointer (some ⟨w.heap.size+1+1,0,none⟩),.int .i64 a,.int .i64 (k:Int),.int .i64 (a*(k:Int)),.pointer (some ⟨w.heap.size+1+1,1,none⟩),.int .i64 b,.int .i64 (k:Int),.int .i64 (b*(k:Int)),pt (a*(k:Int)) (b*(k:Int)),pt (Yd x (a*(k:Int))) (Yd y (b*(k:Int))),.int .i64 r,bx X1 Y1 X2 Y2,.pointer (some ⟨w2.heap.size,0,none⟩),.pointer (some ⟨w2.heap.size,0,none⟩),.int .i64 X1,.int .i64 (dn X1),.pointer (some ⟨w2.heap.size,0,none⟩),.pointer (some ⟨w2.heap.size,1,none⟩),.int .i64 Y1,.int .i64 (dn Y1),pt (dn X1) (dn Y1),.pointer (some ⟨w2.heap.size,2,none⟩),.pointer (some ⟨w2.heap.size,2,none⟩),.int .i64 X2,.int .i64 (dn X2),.pointer (some ⟨w2.heap.size,2,none⟩),.pointer (some ⟨w2.heap.size,3,none⟩),.int .i64 Y2,.int .i64 (dn Y2),pt (dn X2) (dn Y2),bx (dn X1) (dn Y1) (dn X2) (dn Y2),u54,u55,u56,u57,u58,u59,u60,u61,u62,u63,u64,u65,u66,u67,undef],[]⟩
        (by kernel_rfl) (by kernel_rfl) rfl rfl rfl (by kernel_rfl) (by kernel_rfl) (show 14<69 by omega) ?_ ?_ ?_
      · simp only[List.take_succ_cons,List.take_zero,VP,and_true]
        refine⟨?_,?_,?_,?_,?_,?_,?_,?_,?_,?_,?_,?_,?_,?_,?_,?_,?_,?_,?_⟩;all_goals
          intro u hu;have g0c:=(b3.sT hu).cells;go_simp
        all_goals exact(VU _ (by omega) (by omega) u).mono fun _ _ ⟨he,hw⟩=>⟨he,hw ▸ Fr.refl _ _⟩
      · intro u _ y
        go_simp
      simp only[List.drop_succ_cons,List.drop_zero];intro w4 g hs4 hge hz4;have N0:w.heap.size≠g:=by have:=Yz p3;omega
      have N1:w.heap.size+1≠g:=by have:=Yz q3;omega
      have N2:w.heap.size+1+1≠g:=by have:=Yz v3;omega
      have N3:w.heap.size+1+1+1≠g:=by have:=Yz l3;omega
      have N4:w2.heap.size≠g:=by have:=Yz b3;omega
      have NG:w.heap.size<=g:=by have:=Yz p3;omega
      have c4:Bb w4 g 0 0 0 0:=hz4;have p5:=Ba (p3.sT hs4) N0 (dn X1) (dn Y1) (dn X2) (dn Y2);have q5:=K3 (q3.sT hs4) N1 (dn X1) (dn Y1) (dn X2) (dn Y2);have v5:=K3 (v3.sT hs4) N2 (dn X1) (dn Y1) (dn X2) (dn Y2);have l5:=Gy (l3.sT hs4) N3 (dn X1) (dn Y1) (dn X2) (dn Y2);have b5:=Gy (b3.sT hs4) N4 (dn X1) (dn Y1) (dn X2) (dn Y2);have c5:=c4.set (dn X1) (dn Y1) (dn X2) (dn Y2);have HS5:=hid (Wy (HS3.o.trans hs4) g (dn X1) (dn Y1) (dn X2) (dn Y2) (.inr NG));have e0c:=c4.cells;obtain⟨L1,eL1⟩:∃L1,X4 (fun j=>cl1 (atS x a j) r) k=L1:=⟨_,rfl⟩;obtain⟨L2,eL2⟩:∃L2,X4 (fun j=>cl1 (atS y b j) r) k=L2:=⟨_,rfl⟩;obtain⟨L3,eL3⟩:∃L3,X4 (fun j=>cl2 (atS x a j) r) k=L3:=⟨_,rfl⟩;obtain⟨L4,eL4⟩:∃L4,X4 (fun j=>cl2 (atS y b j) r) k=L4:=⟨_,rfl⟩;rw[eL1,eL2,eL3,eL4]at l5;have HL:=hid (And.intro (And.intro eL1 eL2) (And.intro eL3 eL4));have G:=WB;simp only[Act.put,tks];have hD:(decide ((1:Int)<(k:Int))=true/\((dn X1 == L1 && dn Y1 == L2) && (dn X2 == L3 && dn Y2 == L4))=true)\/(decide ((1:Int)<(k:Int))=true/\((dn X1 == L1 && dn Y1 == L2) && (dn X2 == L3 && dn Y2 == L4))=false)\/decide ((1:Int)<(k:Int))=false:=by
        cases decide ((1:Int)<(k:Int))<;>cases((dn X1 == L1 && dn Y1 == L2) && (dn X2 == L3 && dn Y2 == L4))<;>simp
      rcases hD with⟨hk1,hb⟩|hD
      · have E:=Bc hb
        have hk1':1<k:=by have:=of_decide_eq_true hk1;omega
        have HB:=hid (by simpa using hb);have HN:=hid (show t k=false by
          have h0:=HF.o (k-1) (by omega) (by omega);rw[HT.o]at h0⊢;rw[<- h0];have hl:=HL.o;unfold X4 at hl;simp only[show ¬k<=1 by omega,if_false]at hl;exact Ix (HX.o.1.1.trans (HB.o.1.1.trans hl.1.1.symm)) (HX.o.1.2.trans (HB.o.1.2.trans hl.1.2.symm)) (HX.o.2.1.trans (HB.o.2.1.trans hl.2.1.symm)) (HX.o.2.2.trans (HB.o.2.2.trans hl.2.2.symm)))
        have f0c:=l5.cells;have i0c:=c5.cells;go_wp21
        go_roundw;case rel => exact⟨k + 1, by omega, by omega, by go_num, fun j h1 h2 => by
            by_cases e:j=k
            · subst e;exact HN.o
            · exact HF.o j h1 (by omega),p5,q5,v5,by
              unfold X4;simp only[show ¬k+1<=1 by omega,if_false,Nat.add_sub_cancel];rw[HX.o.1.1.trans HB.o.1.1,HX.o.1.2.trans HB.o.1.2,HX.o.2.1.trans HB.o.2.1,HX.o.2.2.trans HB.o.2.2];exact l5,HS5.o⟩
        case measure=>simp[intOf];omega
      · have p6:=Ba p5 (show w.heap.size≠w.heap.size+1+1+1 by omega) (dn X1) (dn Y1) (dn X2) (dn Y2)
        have q6:=K3 q5 (show w.heap.size+1≠w.heap.size+1+1+1 by omega) (dn X1) (dn Y1) (dn X2) (dn Y2);have v6:=K3 v5 (show w.heap.size+1+1≠w.heap.size+1+1+1 by omega) (dn X1) (dn Y1) (dn X2) (dn Y2);have b6:=Gy b5 (show w2.heap.size≠w.heap.size+1+1+1 by omega) (dn X1) (dn Y1) (dn X2) (dn Y2);have l6:=l5.set (dn X1) (dn Y1) (dn X2) (dn Y2);have HS6:=hid (Wy HS5.o (w.heap.size+1+1+1) (dn X1) (dn Y1) (dn X2) (dn Y2) (.inr (by omega)));have f0c:=l5.cells;have i0c:=c5.cells;have o0c:=p6.cells;have n0c:=b6.cells;rcases hD with⟨hk1,hb⟩|hk1;all_goals
          try have E:=Bc hb
          try clear hb
          go_wp21
          cases hv:t k with
          | true =>
            refine(HQ.o true hv _).mono ?_;rintro e w7 ⟨rfl,h7⟩;have HG:=hid (show((k:Int)-1)=(go t n:Nat) by
              have:=XF (t:=t) (n:=n) (k:=k-1) (by omega) (fun j h1 h2=>HF.o j h1 (by omega)) (fun _=>by rw[show k-1+1=k by omega];exact hv);rw[this];omega)
            have HS7:=hid (Yc.trans HS6.o h7);go_wp21
            go_ret;exact⟨Ze HG.o,HS7.o⟩
          | false =>
            refine(HQ.o false hv _).mono ?_;rintro e w7 ⟨rfl,h7⟩;have HV:=hid hv;have p7:=p6.sT h7;have q7:=q6.sT h7;have v7:=v6.sT h7;have l7:=l6.sT h7;have HS7:=hid (Yc.trans HS6.o h7);go_wp21
            go_roundw;case rel => exact⟨k + 1, by omega, by omega, by go_num, fun j h1 h2 => by
                by_cases e:j=k
                · subst e;exact HV.o
                · exact HF.o j h1 (by omega),p7,q7,v7,by
                  unfold X4;simp only[show ¬k+1<=1 by omega,if_false,Nat.add_sub_cancel,HX.o.1.1,HX.o.1.2,HX.o.2.1,HX.o.2.2];exact l7,HS7.o⟩
            case measure=>simp[intOf];omega
    · have HG:=hid (show((n : Nat) : Int) = (go t n : Nat) by
        rw[XF (t:=t) (n:=n) (k:=n) (by omega) (fun j h1 h2=>HF.o j h1 (by omega)) (fun h=>by omega)])
      go_wp21
      go_ret;exact⟨Ze HG.o,HS.o⟩
theorem Be(n:Int)(w:World):Yb 193 #[.int .i64 n] w (.int .i64 (sgn n)):=by
 unfold sgn;by_cases h1:0<n
 ·rw[if_pos h1];go_enter Tryz.func193,Tryz.ntmps193;go_wp2
  go_ret;exact⟨rfl,rfl⟩
 ·by_cases h2:n<0
  ·rw[if_neg h1,if_pos h2];go_enter Tryz.func193,Tryz.ntmps193;go_wp2
   go_ret;exact⟨rfl,rfl⟩
  ·rw[if_neg h1,if_neg h2];go_enter Tryz.func193,Tryz.ntmps193;go_wp2
   go_ret;exact⟨rfl,rfl⟩
theorem Bg(n:Int):-1<=sgn n/\sgn n<=1:=by
 unfold sgn;repeat' split
 all_goals omega
theorem UG(n:Int)(h0:-2048<=n)(h1:n<=2048)(w:World):Yb 192 #[.int .i64 n] w (.int .i64 (n.natAbs:Nat)):=by
 have eb:=bnd_id (n:=n) (by omega) (by omega);by_cases h:n<0
 ·rw[show((n.natAbs:Nat):Int)=-n by omega];go_enter Tryz.func192,Tryz.ntmps192;go_wp2_with (go_at_call 140;refine(XC _ _).mono ?_;rintro e w' ⟨he,hw⟩;rw[he,hw,eb];clear he hw w');go_ret;exact⟨rfl,rfl⟩
 ·rw[show((n.natAbs:Nat):Int)=n by omega];go_enter Tryz.func192,Tryz.ntmps192;go_wp2_with (go_at_call 140;refine(XC _ _).mono ?_;rintro e w' ⟨he,hw⟩;rw[he,hw,eb];clear he hw w');go_ret;exact⟨rfl,rfl⟩
theorem Bh(x y:Int)(w:World):Ya 191 #[pt x y] w (pt (stp x) (stp y)):=by
 obtain⟨W,eW⟩:∃W,W=(Yh (Yh w x y) 0 0):=⟨_,rfl⟩;have p0:Pb W (w.heap.size) x y:=by rw[eW];have h:=Ys w x y;exact(h.sT (sA _ _))
 have c00:=kC p0.cells.1;have c01:=kC p0.cells.2.1;clear p0;have r:Pb W (w.heap.size+1) 0 0:=by rw[eW];have h:=Ys (Yh w x y) 0 0;simp only[size_alloc]at h;exact h
 have HF:=hid (show Yc w W by rw[eW];exact((sA w _).trans (sA _ _)));have HW:=hid eW;have hne:=Aft.here W;clear eW;have HB:=hid (show w.heap.size<=w.heap.size+1 by omega);go_enter Tryz.func191,Tryz.ntmps191;go_wp2_with fail;have e:=HW.o;simp only[Yh]at e;rw[<- e];clear e HW;refine Yp 6 (by kernel_rfl) (by kernel_rfl) ?_;simp only[tkd];repeat(go_big_quiet_step ((go_at_call 122;exact Calls.cl_same (Jo _ _ _ _))))
 refine wpQuiet_nil ?_;intro w1 hs;clear hne c00 c01;have q:=r.sT hs;obtain⟨d0,d1,df⟩:=q.cells;go_wp2_with fail
 (try simp only[Exit.inBlock,Exit.then])
 exact bodyPost_ret ((q.set _ _).res rfl _ rfl) rfl ⟨rfl,Y3 (HF.o.trans hs) _ _ _ (.inr HB.o)⟩
theorem Jz(w:World)(b:Nat)(x y:Int):(Zz w b x y).heap.size=w.heap.size:=by simp[Zz,World.setCell]
theorem ZL{w:World}{b g:Nat}{C R:Int}{s:ByteArray}(h:Ab w b C R s)(hb:b≠g)(x y:Int):Ab (Zz w g x y) b C R s:=by
 unfold Ab;rw[heap_setCell_other _ _ _ _ hb,heap_setCell_other _ _ _ _ hb];exact h
theorem Yv{w:World}{b g:Nat}{p q:Int}(h:Pb w b p q)(hb:b≠g)(x y:Int):Pb (Zz w g x y) b p q:=by
 unfold Pb;rw[heap_setCell_other _ _ _ _ hb,heap_setCell_other _ _ _ _ hb];exact h
theorem Pb.rest{fn:Func}{p q:Tmp}{w:World}{g:Nat}{x y:Int}(hb:Pb w g x y)(h:fn.results=#[.cell p 57,.tmp q])(tmps:Array Value)(t:Value)(hp:tmps.getD p undef=.pointer (some ⟨g,0,none⟩))(hq:tmps.getD q undef=t) :
  (results fn tmps).run Tryz.prog w=.ok (.tuple #[pt x y,t]) w:=by
 rw[results_cell_tmp h,hp,hq];simp[asAddr,Result.andThen,Wx w g x y hb.cells.1 hb.cells.2.1]
def kX(sol:Int->Int->Bool)(r X Y p:Int):Nat:=go (fun j=>bdy sol r (atS X (sgn p) j) (atS Y 0 j)) p.natAbs
def kY(sol:Int->Int->Bool)(r X Y q:Int):Nat:=go (fun j=>bdy sol r (atS X 0 j) (atS Y (sgn q) j)) q.natAbs
def ZM(k n l m:Nat):Int:=(if k<n then 1 else 0)+(if l<m then 2 else 0)
theorem Bi(sol:Int->Int->Bool)(r X Y p:Int):kX sol r X Y p<=p.natAbs:=UE _ _
theorem Bj(sol:Int->Int->Bool)(r X Y q:Int):kY sol r X Y q<=q.natAbs:=UE _ _
theorem Bo{s:Int}{k:Nat}(h0:-1<=s)(h1:s<=1)(hk:k<=2048):-2048<=s*(k:Int)/\s*(k:Int)<=2048:=by
 have:s=-1\/s=0\/s=1:=by omega
 rcases this with rfl|rfl|rfl<;>omega
theorem Bp(n:Int):0<=Yl n 0 4096/\Yl n 0 4096<=4096:=by
 have h1:bnd 0=0:=by decide
 have h2:bnd 4096=4096:=by decide
 unfold Yl;rw[h1,h2];repeat' split
 all_goals omega
theorem Iy(C R x y p q n:Int)(s:ByteArray)(hz:s.size<=281474976710656)(hC:C<=9223372036854775807)(X Y P Q r X1 Y1 X2 Y2:Int)(k l:Nat)
  (eX:bnd x=X) (eY:bnd y=Y) (eP:stp p=P) (eQ:stp q=Q) (er:Yl n 0 4096=r) (ek:kX (Yg C R s) r X Y P=k) (eX1:Yd X (sgn P*(k:Int))=X1) (eY1:Yd Y 0=Y1)
  (el:kY (Yg C R s) r X1 Y1 Q=l) (eX2:Yd X1 0=X2) (eY2:Yd Y1 (sgn Q*(l:Int))=Y2) (w:World) :
  Ya 123 #[ar C R s,pt x y,pt p q,.int .i64 n] w (.tuple #[pt X2 Y2,.int .i64 (ZM k P.natAbs l Q.natAbs)]):=by
 have A0:=sA w (.cells #[.int .i64 C,.int .i64 R,.string s] 24);have A1:=sA (Yi w C R s) (.cells #[.int .i64 x,.int .i64 y] 57);have A2:=sA (Yh (Yi w C R s) x y) (.cells #[.int .i64 p,.int .i64 q] 57);have A3:=sA (Yh (Yh (Yi w C R s) x y) p q) (.cells #[.int .i64 0,.int .i64 0] 57);have a0:=(((YA w C R s).sT A1).sT A2).sT A3;have b0:=((Ys (Yi w C R s) x y).sT A2).sT A3;have c0:=(Ys (Yh (Yi w C R s) x y) p q).sT A3;have d0:=Ys (Yh (Yh (Yi w C R s) x y) p q) 0 0;simp only[size_alloc]at b0 c0 d0;have HS0:=hid (((A0.trans A1).trans A2).trans A3);clear A0 A1 A2 A3;have n1:w.heap.size≠w.heap.size+1:=by omega
 have n2:w.heap.size≠w.heap.size+1+1:=by omega
 have n3:w.heap.size+1≠w.heap.size+1+1:=by omega
 have n4:w.heap.size+1+1≠w.heap.size+1:=by omega
 have n5:w.heap.size+1+1+1≠w.heap.size+1:=by omega
 have n6:w.heap.size+1+1+1≠w.heap.size+1+1:=by omega
 have HN:=hid (And.intro n1 (And.intro n2 (And.intro n3 (And.intro n4 (And.intro n5 n6)))));have HB:=hid (show w.heap.size<=w.heap.size+1/\w.heap.size<=w.heap.size+1+1/\w.heap.size<=w.heap.size+1+1+1 by omega);have pb:=Vx p;have qb:=Vx q;rw[eP]at pb;rw[eQ]at qb;obtain⟨p0,p1⟩:=pb;obtain⟨q0,q1⟩:=qb;have rb:=Bp n;rw[er]at rb;obtain⟨r0,r1⟩:=rb;have sP:=Bg P;have sQ:=Bg Q;have kl:k<=P.natAbs:=by rw[<- ek];exact Bi ..
 have ll:l<=Q.natAbs:=by rw[<- el];exact Bj ..
 have mP:=Bo sP.1 sP.2 (show k<=2048 by omega);have mQ:=Bo sQ.1 sQ.2 (show l<=2048 by omega);have HE:=hid (And.intro (And.intro eX eY) (And.intro (And.intro eP eQ) (And.intro er (And.intro (And.intro eX1 eY1) (And.intro eX2 eY2)))));have HK:Hid (∀u:World,Ya 194 #[ar C R s,pt X Y,pt (sgn P) 0,.int .i64 (P.natAbs:Nat),.int .i64 r] u (.int .i64 (k:Int))):=hid (fun u=>by
  have h:=Bd C R X Y (sgn P) 0 r s P.natAbs hz hC r0 r1 sP.1 sP.2 (by omega) (by omega) (by omega) u;rw[show go (fun j=>bdy (Yg C R s) r (atS X (sgn P) j) (atS Y 0 j)) P.natAbs=k from ek]at h;exact h)
 have HL:Hid (∀u:World,Ya 194 #[ar C R s,pt X1 Y1,pt 0 (sgn Q),.int .i64 (Q.natAbs:Nat),.int .i64 r] u (.int .i64 (l:Int))):=hid (fun u=>by
  have h:=Bd C R X1 Y1 0 (sgn Q) r s Q.natAbs hz hC r0 r1 (by omega) (by omega) sQ.1 sQ.2 (by omega) u;rw[show go (fun j=>bdy (Yg C R s) r (atS X1 0 j) (atS Y1 (sgn Q) j)) Q.natAbs=l from el]at h;exact h)
 clear n1 n2 n3 n4 n5 n6 eX eY eP eQ er ek eX1 eY1 el eX2 eY2;obtain⟨mP0,mP1⟩:=mP;obtain⟨mQ0,mQ1⟩:=mQ;go_enter Tryz.func123,Tryz.ntmps123;go_wp2_with fail;refine(VS x y _).mono ?_;rintro e w1 ⟨rfl,h1⟩;rw[HE.o.1.1,HE.o.1.2];obtain⟨f0,f1,ff⟩:=(b0.sT h1).cells;have a1:=ZL (a0.sT h1) HN.o.1 X Y;have b1:=(b0.sT h1).set X Y;have c1:=Yv (c0.sT h1) HN.o.2.2.2.1 X Y;have d1:=Yv (d0.sT h1) HN.o.2.2.2.2.1 X Y;have HS1:=hid (Y3 (HS0.o.trans h1) (w.heap.size+1) X Y (.inr HB.o.1));clear a0 b0 c0 d0 HS0 h1;obtain⟨g0,g1,gf⟩:=c1.cells;go_wp2_with fail;refine(Bh p q _).mono ?_;rintro e w2 ⟨rfl,h2⟩;rw[HE.o.2.1.1,HE.o.2.1.2];clear f0 f1 ff g0 g1 gf;obtain⟨f0,f1,ff⟩:=(c1.sT h2).cells;have a2:=ZL (a1.sT h2) HN.o.2.1 P Q;have b2:=Yv (b1.sT h2) HN.o.2.2.1 P Q;have c2:=(c1.sT h2).set P Q;have d2:=Yv (d1.sT h2) HN.o.2.2.2.2.2 P Q;have HS2:=hid (Y3 (Yc.trans HS1.o h2) (w.heap.size+1+1) P Q (.inr HB.o.2.1));clear a1 b1 c1 d1 HS1 h2;have A3:=sA (Zz w2 (w.heap.size+1+1) P Q) (.cells #[.int .i64 (sgn P),.int .i64 0] 57);have a3:=a2.sT A3;have b3:=b2.sT A3;have c3:=c2.sT A3;have d3:=d2.sT A3;have v3:=Ys (Zz w2 (w.heap.size+1+1) P Q) (sgn P) 0;rw[Jz]at v3;have HS3:=hid (Yc.trans HS2.o A3);obtain⟨g0,g1,gf⟩:=c2.cells;obtain⟨i0,i1,i2,jf⟩:=a3.cells;obtain⟨m0,m1,mf⟩:=b3.cells;obtain⟨o0,o1,of⟩:=v3.cells;clear a2 b2 c2 d2 HS2 A3;go_wp2_with (first|(go_at_call 122;refine(Jo _ _ _ _).mono ?_;rintro e w' ⟨he,hw⟩;rw[he,hw,HE.o.2.2.1];clear he hw w')|(go_at_call 192;refine(UG _ p0 p1 _).mono ?_;rintro e w' ⟨he,hw⟩;rw[he,hw];clear he hw w')|(go_at_call 193;refine(Be _ _).mono ?_;rintro e w' ⟨he,hw⟩;rw[he,hw];clear he hw w'));refine(HK.o _).mono ?_;rintro e w4 ⟨rfl,h4⟩;have a4:=a3.sT h4;have b4:=b3.sT h4;have c4:=c3.sT h4;have d4:=d3.sT h4;have v4:=v3.sT h4;have HS4:=hid (HS3.o.trans h4);clear a3 b3 c3 d3 v3 HS3 h4 f0 f1 ff g0 g1 gf i0 i1 i2 jf m0 m1 mf o0 o1 of;obtain⟨f0,f1,ff⟩:=b4.cells;obtain⟨g0,g1,gf⟩:=v4.cells;go_wp2_with fail;refine(VT X Y _ _ _).mono ?_;rintro e w5 ⟨rfl,h5⟩;rw[HE.o.2.2.2.1.1,HE.o.2.2.2.1.2];clear f0 f1 ff g0 g1 gf;obtain⟨f0,f1,ff⟩:=(b4.sT h5).cells;have a5:=ZL (a4.sT h5) HN.o.1 X1 Y1;have b5:=(b4.sT h5).set X1 Y1;have c5:=Yv (c4.sT h5) HN.o.2.2.2.1 X1 Y1;have d5:=Yv (d4.sT h5) HN.o.2.2.2.2.1 X1 Y1;have HS5:=hid (Y3 (HS4.o.trans h5) (w.heap.size+1) X1 Y1 (.inr HB.o.1));clear a4 b4 c4 d4 v4 HS4 h5;have A6:=sA (Zz w5 (w.heap.size+1) X1 Y1) (.cells #[.int .i64 0,.int .i64 (sgn Q)] 57);have a6:=a5.sT A6;have b6:=b5.sT A6;have d6:=d5.sT A6;have v6:=Ys (Zz w5 (w.heap.size+1) X1 Y1) 0 (sgn Q);rw[Jz]at v6;have HS6:=hid (Yc.trans HS5.o A6);obtain⟨g0,g1,gf⟩:=c5.cells;obtain⟨i0,i1,i2,jf⟩:=a6.cells;obtain⟨m0,m1,mf⟩:=b6.cells;obtain⟨o0,o1,of⟩:=v6.cells;clear a5 b5 c5 d5 HS5 A6;go_wp2_with (first|(go_at_call 192;refine(UG _ q0 q1 _).mono ?_;rintro e w' ⟨he,hw⟩;rw[he,hw];clear he hw w')|(go_at_call 193;refine(Be _ _).mono ?_;rintro e w' ⟨he,hw⟩;rw[he,hw];clear he hw w'));refine(HL.o _).mono ?_;rintro e w7 ⟨rfl,h7⟩;have b7:=b6.sT h7;have d7:=d6.sT h7;have v7:=v6.sT h7;have HS7:=hid (HS6.o.trans h7);clear a6 b6 d6 v6 HS6 h7 f0 f1 ff g0 g1 gf i0 i1 i2 jf m0 m1 mf o0 o1 of;obtain⟨f0,f1,ff⟩:=b7.cells;obtain⟨g0,g1,gf⟩:=v7.cells;go_wp2_with fail;refine(VT X1 Y1 _ _ _).mono ?_;rintro e w8 ⟨rfl,h8⟩;rw[HE.o.2.2.2.2.1,HE.o.2.2.2.2.2];clear f0 f1 ff g0 g1 gf;obtain⟨f0,f1,ff⟩:=(b7.sT h8).cells;have b8:=(b7.sT h8).set X2 Y2;have d8:=Yv (d7.sT h8) HN.o.2.2.2.2.1 X2 Y2;have HS8:=hid (Y3 (HS7.o.trans h8) (w.heap.size+1) X2 Y2 (.inr HB.o.1));clear b7 d7 v7 HS7 h8;obtain⟨g0,g1,gf⟩:=b8.cells;obtain⟨i0,i1,jf⟩:=d8.cells;have hk:(k<P.natAbs/\(if k<P.natAbs then(1:Int)else 0)=1)\/(¬k<P.natAbs/\(if k<P.natAbs then(1:Int)else 0)=0):=by
  by_cases h:k<P.natAbs
  ·exact .inl ⟨h,if_pos h⟩
  ·exact .inr ⟨h,if_neg h⟩
 have hl:(l<Q.natAbs/\(if l<Q.natAbs then(2:Int)else 0)=2)\/(¬l<Q.natAbs/\(if l<Q.natAbs then(2:Int)else 0)=0):=by
  by_cases h:l<Q.natAbs
  ·exact .inl ⟨h,if_pos h⟩
  ·exact .inr ⟨h,if_neg h⟩
 rcases hk with⟨hk,sk⟩|⟨hk,sk⟩<;>rcases hl with⟨hl,sl⟩|⟨hl,sl⟩
 all_goals
  have HD:=hid (And.intro sk sl);clear sk sl kl ll;go_wp2_with fail
  (try simp only[Exit.inBlock,Exit.then])
  exact bodyPost_ret ((d8.set _ _).rest rfl _ _ rfl rfl) rfl ⟨by unfold ZM;rw[HD.o.1,HD.o.2];rfl,Y3 HS8.o _ _ _ (.inr HB.o.2.2)⟩
def rp(X p:Int)(n j:Nat):Int:=if j=0 then X else Yd X ((p*(j:Int)).tdiv (n:Int))
def VV(p q:Int):Nat:=(max p.natAbs q.natAbs+63) / 64
def ZE(sol:Int->Int->Bool)(X Y p q:Int)(n j:Nat):Bool:=sol (dn (rp X p n j)) (dn (rp Y q n j))
theorem K4{v:Int}{n:Nat}(h0:-67584<=v)(h1:v<=67584):-67584<=v.tdiv (n:Int)/\v.tdiv (n:Int)<=67584:=by
 rcases Int.le_total 0 v with h|h
 ·rw[Int.tdiv_eq_ediv_of_nonneg h];have a:0<=v / (n:Int):=Int.ediv_nonneg h (by omega);have b:v / (n:Int)<=v:=Int.ediv_le_self _ h;omega
 ·have e:v.tdiv (n:Int)=-((-v) / (n:Int)):=by
   rw[<- Int.tdiv_eq_ediv_of_nonneg (show 0 <= -v by omega),Int.neg_tdiv];omega
  have a:0<=(-v) / (n:Int):=Int.ediv_nonneg (by omega) (by omega);have b:(-v) / (n:Int) <= -v:=Int.ediv_le_self _ (by omega);omega
theorem Vy{v:Int}(h0:-67584<=v)(h1:v<=67584):IntKind.i64.wrap v=v:=by rw[IntKind.wrap_i64];omega
theorem K7{p:Int}{k:Nat}(h0:-2048<=p)(h1:p<=2048)(hk:k<=33):-67584<=p*(k:Int)/\p*(k:Int)<=67584:=by
 have:(p*(k:Int)).natAbs<=2048*33:=by rw[Int.natAbs_mul];exact Nat.mul_le_mul (by omega) (by omega)
 omega
theorem Iz(C R x y p q:Int)(s:ByteArray)(hz:s.size<=281474976710656)(hC:C<=9223372036854775807)(X Y P Q:Int)(n k:Nat)
    (eX:bnd x=X) (eY:bnd y=Y) (eP:stp p=P) (eQ:stp q=Q) (en:VV P Q=n) (ek:go (ZE (Yg C R s) X Y P Q n) n=k) (w:World) :
    Ya 127 #[ar C R s,pt x y,pt p q] w (.tuple #[pt (rp X P n k) (rp Y Q n k),.bool (decide (k<n))]):=by
  have A0:=sA w (.cells #[.int .i64 C,.int .i64 R,.string s] 24);have A1:=sA (Yi w C R s) (.cells #[.int .i64 x,.int .i64 y] 57);have A2:=sA (Yh (Yi w C R s) x y) (.cells #[.int .i64 p,.int .i64 q] 57);have A3:=sA (Yh (Yh (Yi w C R s) x y) p q) (.cells #[.int .i64 0,.int .i64 0] 57);have a0:=(((YA w C R s).sT A1).sT A2).sT A3;have b0:=((Ys (Yi w C R s) x y).sT A2).sT A3;have c0:=(Ys (Yh (Yi w C R s) x y) p q).sT A3;have d0:=Ys (Yh (Yh (Yi w C R s) x y) p q) 0 0;simp only[size_alloc]at b0 c0 d0;have HS0:=hid (((A0.trans A1).trans A2).trans A3);have HN:=hid (show w.heap.size≠w.heap.size+1/\w.heap.size≠w.heap.size+1+1/\w.heap.size+1≠w.heap.size+1+1/\w.heap.size+1+1≠w.heap.size+1/\w.heap.size+1+1+1≠w.heap.size+1/\w.heap.size+1+1+1≠w.heap.size+1+1 by omega);have HB:=hid (show w.heap.size<=w.heap.size+1/\w.heap.size<=w.heap.size+1+1/\w.heap.size<=w.heap.size+1+1+1 by omega);have pb:=Vx p;have qb:=Vx q;rw[eP]at pb;rw[eQ]at qb;obtain⟨p0,p1⟩:=pb;obtain⟨q0,q1⟩:=qb;have n1:n<=32:=by rw[<- en];unfold VV;omega
  have HX:=hid (show(-2147483647<=X/\X<=2147483647)/\(-2147483647<=Y/\Y<=2147483647) by rw[<- eX,<- eY];exact⟨⟨Yn _,Yo _⟩,⟨Yn _,Yo _⟩⟩);have HE:=hid (And.intro (And.intro eX eY) (And.intro (And.intro eP eQ) (And.intro en ek)));unfold Ya;go_in
  go_wp21
  refine(VS x y _).mono ?_;rintro e w1 ⟨rfl,h1⟩;rw[HE.o.1.1,HE.o.1.2];obtain⟨f0,f1,ff⟩:=(b0.sT h1).cells;have a1:=ZL (a0.sT h1) HN.o.1 X Y;have b1:=(b0.sT h1).set X Y;have c1:=Yv (c0.sT h1) HN.o.2.2.2.1 X Y;have d1:=Yv (d0.sT h1) HN.o.2.2.2.2.1 X Y;have HS1:=hid (Y3 (HS0.o.trans h1) (w.heap.size+1) X Y (.inr HB.o.1));obtain⟨g0,g1,gf⟩:=c1.cells;go_wp21
  refine(Bh p q _).mono ?_;rintro e w2 ⟨rfl,h2⟩;rw[HE.o.2.1.1,HE.o.2.1.2];obtain⟨f0,f1,ff⟩:=(c1.sT h2).cells;have a2:=ZL (a1.sT h2) HN.o.2.1 P Q;have b2:=Yv (b1.sT h2) HN.o.2.2.1 P Q;have c2:=(c1.sT h2).set P Q;have d2:=Yv (d1.sT h2) HN.o.2.2.2.2.2 P Q;have HS2:=hid (Y3 (Yc.trans HS1.o h2) (w.heap.size+1+1) P Q (.inr HB.o.2.1));have A3:=sA (Zz w2 (w.heap.size+1+1) P Q) (.cells #[.int .i64 X,.int .i64 Y] 57);have a3:=a2.sT A3;have b3:=b2.sT A3;have c3:=c2.sT A3;have d3:=d2.sT A3;have v3:=Ys (Zz w2 (w.heap.size+1+1) P Q) X Y;rw[Jz]at v3;have HS3:=hid (Yc.trans HS2.o A3);have NL:=hid (show w.heap.size+1+1+1<w2.heap.size by have:=Yz d2;rw[Jz]at this;exact this);obtain⟨g0,g1,gf⟩:=c2.cells;obtain⟨m0,m1,mf⟩:=b2.cells;have hm:(P.natAbs<Q.natAbs/\(((Q.natAbs:Nat):Int)+63) / 64=(n:Int))\/(¬P.natAbs<Q.natAbs/\(((P.natAbs:Nat):Int)+63) / 64=(n:Int)):=by
    unfold VV at en;by_cases h:P.natAbs<Q.natAbs
    · exact .inl ⟨h,by omega⟩
    · exact .inr ⟨h,by omega⟩
  rcases hm with⟨hm,hd⟩|⟨hm,hd⟩
  · go_wp2_with (first|(go_at_call 192;(first|with_reducible refine(UG P p0 p1 _).mono ?_|with_reducible refine(UG Q q0 q1 _).mono ?_);rintro e w' ⟨he,hw⟩;rw[he,hw];clear he hw w'))
    rw[hd];go_loopw [12] (fun vj wr => ∃j : Nat, 1 <= j /\ j <= n + 1 /\ vj = .int .i64 (j : Int) /\ (∀i, 1 <= i -> i < j -> ZE (Yg C R s) X Y P Q n i = false) /\ Ab wr w.heap.size C R s /\ Pb wr (w.heap.size + 1) X Y /\ Pb wr (w.heap.size + 1 + 1) P Q /\ Pb wr (w.heap.size + 1 + 1 + 1) 0 0 /\
        Pb wr w2.heap.size (rp X P n (j-1)) (rp Y Q n (j-1))/\Yc w wr) (fun vj _=>n+1-(intOf vj).toNat)
    case atStart=>exact⟨1,by omega,by omega,rfl,fun i h1 h2=>by omega,a3,b3,c3,d3,v3,HS3.o⟩
    case round =>
      obtain⟨j,j1,j2,rfl,hfree,a4,b4,c4,d4,v4,hs⟩:=hrel;have HF:=hid hfree;have HS4:=hid hs;by_cases hlt:j<=n
      · obtain⟨t0,t1⟩:=K7 p0 p1 (show j<=33 by omega)
        obtain⟨t2,t3⟩:=K7 q0 q1 (show j<=33 by omega);obtain⟨t4,t5⟩:=K4 (n:=n) t0 t1;obtain⟨t6,t7⟩:=K4 (n:=n) t2 t3;have W1:=Vy t4 t5;have W2:=Vy t6 t7;have W3:=Vy t0 t1;have W4:=Vy t2 t3;have nz:¬n=0:=by omega
        obtain⟨NX,eNX⟩:∃NX,Yd X ((P*(j:Int)).tdiv (n:Int))=NX:=⟨_,rfl⟩;obtain⟨NY,eNY⟩:∃NY,Yd Y ((Q*(j:Int)).tdiv (n:Int))=NY:=⟨_,rfl⟩;have bX:-2147483647<=NX/\NX<=2147483647:=by rw[<- eNX];exact⟨Yn _,Yo _⟩
        have bY:-2147483647<=NY/\NY<=2147483647:=by rw[<- eNY];exact⟨Yn _,Yo _⟩
        have HP:=hid (show rp X P n j=NX/\rp Y Q n j=NY by
          unfold rp;rw[if_neg (by omega),if_neg (by omega)];exact⟨eNX,eNY⟩)
        have HA:=hid (fun u=>by
          have h:=VT X Y ((P*(j:Int)).tdiv (n:Int)) ((Q*(j:Int)).tdiv (n:Int)) u;rw[eNX,eNY]at h;exact h)
        go_wp21
        refine Kx (on:=_) 15 13 (.cells #[.int .i64 0,.int .i64 0] 57)
          [pt X Y,.pointer (some ⟨w.heap.size+1+1,0,none⟩),.int .i64 P,.int .i64 (j:Int),.int .i64 (P*(j:Int)),.int .i64 (n:Int),.int .i64 ((P*(j:Int)).tdiv (n:Int)),.pointer (some ⟨w.heap.size+1+1,1,none⟩),.int .i64 Q,.int .i64 (j:Int),.int .i64 (Q*(j:Int)),.int .i64 (n:Int),.int .i64 ((Q*(j:Int)).tdiv (n:Int)),pt ((P*(j:Int)).tdiv (n:Int)) ((Q*(j:Int)).tdiv (n:Int)),pt NX NY]
          ⟨#[ar C R s,pt x y,pt p q,.pointer (some ⟨w.heap.size,0,none⟩),.pointer (some ⟨w.heap.size+1,0,none⟩),.pointer (some ⟨w.heap.size+1+1,0,none⟩),.pointer (some ⟨w.heap.size+1+1+1,0,none⟩),u7,.int .i64 ((Q.natAbs:Nat):Int),.int .i64 ((Q.natAbs:Nat):Int),.int .i64 (n:Int),.pointer (some ⟨w2.heap.size,0,none⟩),.int .i64 (j:Int),u13,u14,.agg #[.int .i64 x,.int .i64 y],pt X Y,.agg #[.int .i64 p,.int .i64 q],pt P Q,.pointer (some ⟨w.heap.size+1+1,0,none⟩),.int .i64 P,.int .i64 ((P.natAbs:Nat):Int),.pointer (some ⟨w.heap.size+1+1,1,none⟩),.int .i64 Q,.int .i64 ((Q.natAbs:Nat):Int),.int .i64 ((Q.natAbs:Nat):Int),.int .i64 ((P.natAbs:Nat):Int),.bool true,.int .i64 ((Q.natAbs:Nat):Int),.int .i64 ((Q.natAbs:Nat):Int),.int .i64 (((Q.natAbs:Nat):Int)+63),.int .i64 (n:Int),.agg #[.int .i64 X,.int .i64 Y],.int .i64 (j:Int),.int .i64 (n:Int),.bool true,u36,u37,pt X Y,.pointer (some ⟨w.heap.size+1+1,0,none⟩),.int .i64 P,.int .i64 (j:Int),.int .i64 (P*(j:Int)),.int .i64 (n:Int),.int .i64 ((P*(j:Int)).tdiv (n:Int)),.pointer (some ⟨w.heap.size+1+1,1,none⟩),.int .i64 Q,.int .i64 (j:Int),.int .i64 (Q*(j:Int)),.int .i64 (n:Int),.int .i64 ((Q*(j:Int)).tdiv (n:Int)),pt ((P*(j:Int)).tdiv (n:Int)) ((Q*(j:Int)).tdiv (n:Int)),pt NX NY,u53,u54,u55,u56,u57,u58,u59,u60,u61,u62,u63,undef],[]⟩
          (by kernel_rfl) (by kernel_rfl) rfl rfl rfl (by kernel_rfl) (by kernel_rfl) (show 13<65 by omega) ?_ ?_ ?_
        · simp only[List.take_succ_cons,List.take_zero,VP,and_true]
          refine⟨?_,?_,?_,?_,?_,?_,?_,?_,?_,?_,?_,?_,?_,?_,?_⟩;all_goals
            intro u hu;obtain⟨g0,g1,gf⟩:=(b4.sT hu).cells;obtain⟨i0,i1,jf⟩:=(c4.sT hu).cells;go_simp
          all_goals exact HA.o u
        · intro u _ z
          go_simp
        simp only[List.drop_succ_cons,List.drop_zero];intro w5 g hs5 hge hz5;have N0:w.heap.size≠g:=by have:=Yz a4;omega
        have N1:w.heap.size+1≠g:=by have:=Yz b4;omega
        have N2:w.heap.size+1+1≠g:=by have:=Yz c4;omega
        have N3:w.heap.size+1+1+1≠g:=by have:=Yz d4;omega
        have N4:w2.heap.size≠g:=by have:=Yz v4;omega
        have NG:w.heap.size<=g:=by have:=Yz a4;omega
        have x5:Pb w5 g 0 0:=hz5;obtain⟨e0,e1,ef⟩:=x5.cells;have a5:=ZL (a4.sT hs5) N0 NX NY;have b5:=Yv (b4.sT hs5) N1 NX NY;have c5:=Yv (c4.sT hs5) N2 NX NY;have d5:=Yv (d4.sT hs5) N3 NX NY;have v5:=Yv (v4.sT hs5) N4 NX NY;have y5:=x5.set NX NY;have HS5:=hid (Y3 (HS4.o.trans hs5) g NX NY (.inr NG));simp only[Act.put,tks];go_wp21
        obtain⟨W5,eW5⟩:∃W5,Zz w5 g NX NY=W5:=⟨_,rfl⟩;rw[show(w5.setCell ⟨g,0,none⟩ (.int .i64 NX)).setCell ⟨g,1,none⟩ (.int .i64 NY)=W5 from eW5];rw[eW5]at a5 b5 c5 d5 v5 y5 HS5;have i0:=kC a5.cells.1;have i1:=kC a5.cells.2.1;have i2:=kC a5.cells.2.2.1;have o0:=kC y5.cells.1;have o1:=kC y5.cells.2.1;have hne:=Aft.here W5;obtain⟨bX0,bX1⟩:=bX;obtain⟨bY0,bY1⟩:=bY;cases hsol:Yg C R s (dn NX) (dn NY)with
        | true =>
          have HC:=hid (fun u=>UF C R (dn NX) (dn NY) s hz hC hsol u);have HK:=hid (show j-1=k by
            rw[<- HE.o.2.2.2];refine(XF (by omega) (fun i h1 h2=>HF.o i h1 (by omega)) (fun _=>?_)).symm;rw[show j-1+1=j by omega];unfold ZE;rw[HP.o.1,HP.o.2];exact hsol)
          refine Yk (by kernel_rfl) (by kernel_rfl) ?_;repeat(go_big_quiet_step ((first|(go_at_call 197;refine Calls.cl_same (VU _ ?_ ?_ _)<;>omega)|(go_at_call 196;exact Calls.cl (HC.o _)))))
          refine wpQuiet_nil ?_;intro w6 h6;have v6:=v5.sT h6;have d6:=d5.sT h6;have HS6:=hid (Yc.trans HS5.o h6);obtain⟨i0,i1,jf⟩:=v6.cells;obtain⟨o0,o1,of⟩:=d6.cells;go_wp21
          (try simp only[Exit.inBlock,Exit.then])
          exact bodyPost_ret ((d6.set _ _).rest rfl _ _ rfl rfl) rfl ⟨by rw[HK.o,decide_eq_true (show k<n by have:=HK.o;omega)];rfl,Y3 HS6.o _ _ _ (.inr HB.o.2.2)⟩
        | false =>
          have HC:=hid (fun u=>UF C R (dn NX) (dn NY) s hz hC hsol u);have HV:=hid (show ZE (Yg C R s) X Y P Q n j=false by
            unfold ZE;rw[HP.o.1,HP.o.2];exact hsol)
          refine Yk (by kernel_rfl) (by kernel_rfl) ?_;repeat(go_big_quiet_step ((first|(go_at_call 197;refine Calls.cl_same (VU _ ?_ ?_ _)<;>omega)|(go_at_call 196;exact Calls.cl (HC.o _)))))
          refine wpQuiet_nil ?_;intro w6 h6;have l1:w.heap.size≠w2.heap.size:=by have:=NL.o;omega
          have l2:w.heap.size+1≠w2.heap.size:=by have:=NL.o;omega
          have l3:w.heap.size+1+1≠w2.heap.size:=by have:=NL.o;omega
          have l4:w.heap.size+1+1+1≠w2.heap.size:=by have:=NL.o;omega
          have a6:=ZL (a5.sT h6) l1 NX NY;have b6:=Yv (b5.sT h6) l2 NX NY;have c6:=Yv (c5.sT h6) l3 NX NY;have d6:=Yv (d5.sT h6) l4 NX NY;have v6:=(v5.sT h6).set NX NY;have HS6:=hid (Y3 (Yc.trans HS5.o h6) w2.heap.size NX NY (.inr (by have:=NL.o;omega)));obtain⟨q2,q3,qf⟩:=(v5.sT h6).cells;obtain⟨s2,s3,sf⟩:=(y5.sT h6).cells;go_wp21
          go_roundw;case rel => exact⟨j + 1, by omega, by omega, by go_num, fun i h1 h2 => by
              by_cases e:i=j
              · subst e;exact HV.o
              · exact HF.o i h1 (by omega),a6,b6,c6,d6,by
                rw[Nat.add_sub_cancel,HP.o.1,HP.o.2];exact v6,HS6.o⟩
          case measure=>simp[intOf];omega
      · have HK:=hid (show j-1 = k by
          rw[<- HE.o.2.2.2];exact(XF (by omega) (fun i h1 h2=>HF.o i h1 (by omega)) (fun h=>by omega)).symm)
        obtain⟨i0,i1,jf⟩:=v4.cells;obtain⟨o0,o1,of⟩:=d4.cells;go_wp21
        (try simp only[Exit.inBlock,Exit.then])
        exact bodyPost_ret ((d4.set _ _).rest rfl _ _ rfl rfl) rfl ⟨by rw[HK.o,decide_eq_false (show ¬k<n by have:=HK.o;omega)];rfl,Y3 HS4.o _ _ _ (.inr HB.o.2.2)⟩
  · go_wp2_with (first|(go_at_call 192;(first|with_reducible refine(UG P p0 p1 _).mono ?_|with_reducible refine(UG Q q0 q1 _).mono ?_);rintro e w' ⟨he,hw⟩;rw[he,hw];clear he hw w'))
    rw[hd];go_loopw [12] (fun vj wr => ∃j : Nat, 1 <= j /\ j <= n + 1 /\ vj = .int .i64 (j : Int) /\ (∀i, 1 <= i -> i < j -> ZE (Yg C R s) X Y P Q n i = false) /\ Ab wr w.heap.size C R s /\ Pb wr (w.heap.size + 1) X Y /\ Pb wr (w.heap.size + 1 + 1) P Q /\ Pb wr (w.heap.size + 1 + 1 + 1) 0 0 /\
        Pb wr w2.heap.size (rp X P n (j-1)) (rp Y Q n (j-1))/\Yc w wr) (fun vj _=>n+1-(intOf vj).toNat)
    case atStart=>exact⟨1,by omega,by omega,rfl,fun i h1 h2=>by omega,a3,b3,c3,d3,v3,HS3.o⟩
    case round =>
      obtain⟨j,j1,j2,rfl,hfree,a4,b4,c4,d4,v4,hs⟩:=hrel;have HF:=hid hfree;have HS4:=hid hs;by_cases hlt:j<=n
      · obtain⟨t0,t1⟩:=K7 p0 p1 (show j<=33 by omega)
        obtain⟨t2,t3⟩:=K7 q0 q1 (show j<=33 by omega);obtain⟨t4,t5⟩:=K4 (n:=n) t0 t1;obtain⟨t6,t7⟩:=K4 (n:=n) t2 t3;have W1:=Vy t4 t5;have W2:=Vy t6 t7;have W3:=Vy t0 t1;have W4:=Vy t2 t3;have nz:¬n=0:=by omega
        obtain⟨NX,eNX⟩:∃NX,Yd X ((P*(j:Int)).tdiv (n:Int))=NX:=⟨_,rfl⟩;obtain⟨NY,eNY⟩:∃NY,Yd Y ((Q*(j:Int)).tdiv (n:Int))=NY:=⟨_,rfl⟩;have bX:-2147483647<=NX/\NX<=2147483647:=by rw[<- eNX];exact⟨Yn _,Yo _⟩
        have bY:-2147483647<=NY/\NY<=2147483647:=by rw[<- eNY];exact⟨Yn _,Yo _⟩
        have HP:=hid (show rp X P n j=NX/\rp Y Q n j=NY by
          unfold rp;rw[if_neg (by omega),if_neg (by omega)];exact⟨eNX,eNY⟩)
        have HA:Hid (∀u:World,Ya 121 #[pt X Y,pt ((P*(j:Int)).tdiv (n:Int)) ((Q*(j:Int)).tdiv (n:Int))] u (pt NX NY)):=hid (fun u=>by
          have h:=VT X Y ((P*(j:Int)).tdiv (n:Int)) ((Q*(j:Int)).tdiv (n:Int)) u;rw[eNX,eNY]at h;exact h)
        go_wp21
        refine Kx (on:=_) 15 13 (.cells #[.int .i64 0,.int .i64 0] 57)
          [pt X Y,.pointer (some ⟨w.heap.size+1+1,0,none⟩),.int .i64 P,.int .i64 (j:Int),.int .i64 (P*(j:Int)),.int .i64 (n:Int),.int .i64 ((P*(j:Int)).tdiv (n:Int)),.pointer (some ⟨w.heap.size+1+1,1,none⟩),.int .i64 Q,.int .i64 (j:Int),.int .i64 (Q*(j:Int)),.int .i64 (n:Int),.int .i64 ((Q*(j:Int)).tdiv (n:Int)),pt ((P*(j:Int)).tdiv (n:Int)) ((Q*(j:Int)).tdiv (n:Int)),pt NX NY]
          ⟨#[ar C R s,pt x y,pt p q,.pointer (some ⟨w.heap.size,0,none⟩),.pointer (some ⟨w.heap.size+1,0,none⟩),.pointer (some ⟨w.heap.size+1+1,0,none⟩),.pointer (some ⟨w.heap.size+1+1+1,0,none⟩),u7,.int .i64 ((P.natAbs:Nat):Int),.int .i64 ((Q.natAbs:Nat):Int),.int .i64 (n:Int),.pointer (some ⟨w2.heap.size,0,none⟩),.int .i64 (j:Int),u13,u14,.agg #[.int .i64 x,.int .i64 y],pt X Y,.agg #[.int .i64 p,.int .i64 q],pt P Q,.pointer (some ⟨w.heap.size+1+1,0,none⟩),.int .i64 P,.int .i64 ((P.natAbs:Nat):Int),.pointer (some ⟨w.heap.size+1+1,1,none⟩),.int .i64 Q,.int .i64 ((Q.natAbs:Nat):Int),.int .i64 ((Q.natAbs:Nat):Int),.int .i64 ((P.natAbs:Nat):Int),.bool false,undef,.int .i64 ((P.natAbs:Nat):Int),.int .i64 (((P.natAbs:Nat):Int)+63),.int .i64 (n:Int),.agg #[.int .i64 X,.int .i64 Y],.int .i64 (j:Int),.int .i64 (n:Int),.bool true,u36,u37,pt X Y,.pointer (some ⟨w.heap.size+1+1,0,none⟩),.int .i64 P,.int .i64 (j:Int),.int .i64 (P*(j:Int)),.int .i64 (n:Int),.int .i64 ((P*(j:Int)).tdiv (n:Int)),.pointer (some ⟨w.heap.size+1+1,1,none⟩),.int .i64 Q,.int .i64 (j:Int),.int .i64 (Q*(j:Int)),.int .i64 (n:Int),.int .i64 ((Q*(j:Int)).tdiv (n:Int)),pt ((P*(j:Int)).tdiv (n:Int)) ((Q*(j:Int)).tdiv (n:Int)),pt NX NY,u53,u54,u55,u56,u57,u58,u59,u60,u61,u62,u63,undef],[]⟩
          (by kernel_rfl) (by kernel_rfl) rfl rfl rfl (by kernel_rfl) (by kernel_rfl) (show 13<65 by omega) ?_ ?_ ?_
        · simp only[List.take_succ_cons,List.take_zero,VP,and_true]
          refine⟨?_,?_,?_,?_,?_,?_,?_,?_,?_,?_,?_,?_,?_,?_,?_⟩;all_goals
            intro u hu;obtain⟨g0,g1,gf⟩:=(b4.sT hu).cells;obtain⟨i0,i1,jf⟩:=(c4.sT hu).cells;go_simp
          all_goals exact HA.o u
        · intro u _ z
          go_simp
        simp only[List.drop_succ_cons,List.drop_zero];intro w5 g hs5 hge hz5;have N0:w.heap.size≠g:=by have:=Yz a4;omega
        have N1:w.heap.size+1≠g:=by have:=Yz b4;omega
        have N2:w.heap.size+1+1≠g:=by have:=Yz c4;omega
        have N3:w.heap.size+1+1+1≠g:=by have:=Yz d4;omega
        have N4:w2.heap.size≠g:=by have:=Yz v4;omega
        have NG:w.heap.size<=g:=by have:=Yz a4;omega
        have x5:Pb w5 g 0 0:=hz5;obtain⟨e0,e1,ef⟩:=x5.cells;have a5:=ZL (a4.sT hs5) N0 NX NY;have b5:=Yv (b4.sT hs5) N1 NX NY;have c5:=Yv (c4.sT hs5) N2 NX NY;have d5:=Yv (d4.sT hs5) N3 NX NY;have v5:=Yv (v4.sT hs5) N4 NX NY;have y5:=x5.set NX NY;have HS5:=hid (Y3 (HS4.o.trans hs5) g NX NY (.inr NG));simp only[Act.put,tks];go_wp21
        obtain⟨W5,eW5⟩:∃W5,Zz w5 g NX NY=W5:=⟨_,rfl⟩;rw[show(w5.setCell ⟨g,0,none⟩ (.int .i64 NX)).setCell ⟨g,1,none⟩ (.int .i64 NY)=W5 from eW5];rw[eW5]at a5 b5 c5 d5 v5 y5 HS5;have i0:=kC a5.cells.1;have i1:=kC a5.cells.2.1;have i2:=kC a5.cells.2.2.1;have o0:=kC y5.cells.1;have o1:=kC y5.cells.2.1;have hne:=Aft.here W5;obtain⟨bX0,bX1⟩:=bX;obtain⟨bY0,bY1⟩:=bY;cases hsol:Yg C R s (dn NX) (dn NY)with
        | true =>
          have HC:Hid (∀u:World,Ya 196 #[ar C R s,.int .i64 (dn NX),.int .i64 (dn NY)] u (.bool true)):=hid (fun u=>UF C R (dn NX) (dn NY) s hz hC hsol u);have HK:=hid (show j-1=k by
            rw[<- HE.o.2.2.2];refine(XF (by omega) (fun i h1 h2=>HF.o i h1 (by omega)) (fun _=>?_)).symm;rw[show j-1+1=j by omega];unfold ZE;rw[HP.o.1,HP.o.2];exact hsol)
          refine Yk (by kernel_rfl) (by kernel_rfl) ?_;repeat(go_big_quiet_step ((first|(go_at_call 197;refine Calls.cl_same (VU _ ?_ ?_ _)<;>omega)|(go_at_call 196;exact Calls.cl (HC.o _)))))
          refine wpQuiet_nil ?_;intro w6 h6;have v6:=v5.sT h6;have d6:=d5.sT h6;have HS6:=hid (Yc.trans HS5.o h6);obtain⟨i0,i1,jf⟩:=v6.cells;obtain⟨o0,o1,of⟩:=d6.cells;go_wp21
          (try simp only[Exit.inBlock,Exit.then])
          exact bodyPost_ret ((d6.set _ _).rest rfl _ _ rfl rfl) rfl ⟨by rw[HK.o,decide_eq_true (show k<n by have:=HK.o;omega)];rfl,Y3 HS6.o _ _ _ (.inr HB.o.2.2)⟩
        | false =>
          have HC:Hid (∀u:World,Ya 196 #[ar C R s,.int .i64 (dn NX),.int .i64 (dn NY)] u (.bool false)):=hid (fun u=>UF C R (dn NX) (dn NY) s hz hC hsol u);have HV:=hid (show ZE (Yg C R s) X Y P Q n j=false by
            unfold ZE;rw[HP.o.1,HP.o.2];exact hsol)
          refine Yk (by kernel_rfl) (by kernel_rfl) ?_;repeat(go_big_quiet_step ((first|(go_at_call 197;refine Calls.cl_same (VU _ ?_ ?_ _)<;>omega)|(go_at_call 196;exact Calls.cl (HC.o _)))))
          refine wpQuiet_nil ?_;intro w6 h6;have l1:w.heap.size≠w2.heap.size:=by have:=NL.o;omega
          have l2:w.heap.size+1≠w2.heap.size:=by have:=NL.o;omega
          have l3:w.heap.size+1+1≠w2.heap.size:=by have:=NL.o;omega
          have l4:w.heap.size+1+1+1≠w2.heap.size:=by have:=NL.o;omega
          have a6:=ZL (a5.sT h6) l1 NX NY;have b6:=Yv (b5.sT h6) l2 NX NY;have c6:=Yv (c5.sT h6) l3 NX NY;have d6:=Yv (d5.sT h6) l4 NX NY;have v6:=(v5.sT h6).set NX NY;have HS6:=hid (Y3 (Yc.trans HS5.o h6) w2.heap.size NX NY (.inr (by have:=NL.o;omega)));obtain⟨q2,q3,qf⟩:=(v5.sT h6).cells;obtain⟨s2,s3,sf⟩:=(y5.sT h6).cells;go_wp21
          go_roundw;case rel => exact⟨j + 1, by omega, by omega, by go_num, fun i h1 h2 => by
              by_cases e:i=j
              · subst e;exact HV.o
              · exact HF.o i h1 (by omega),a6,b6,c6,d6,by
                rw[Nat.add_sub_cancel,HP.o.1,HP.o.2];exact v6,HS6.o⟩
          case measure=>simp[intOf];omega
      · have HK:=hid (show j-1 = k by
          rw[<- HE.o.2.2.2];exact(XF (by omega) (fun i h1 h2=>HF.o i h1 (by omega)) (fun h=>by omega)).symm)
        obtain⟨i0,i1,jf⟩:=v4.cells;obtain⟨o0,o1,of⟩:=d4.cells;go_wp21
        (try simp only[Exit.inBlock,Exit.then])
        exact bodyPost_ret ((d4.set _ _).rest rfl _ _ rfl rfl) rfl ⟨by rw[HK.o,decide_eq_false (show ¬k<n by have:=HK.o;omega)];rfl,Y3 HS4.o _ _ _ (.inr HB.o.2.2)⟩
end
section
open Pu Gp Ap
/-! ### Within the bounds -/
def Z5(x:Int):Prop:=-2147483647<=x/\x<=2147483647
theorem I0{x:Int}(h:Z5 x):Yd x 0=x:=by
 unfold Yd;rw[show bnd 0=0 by decide,bnd_id h.1 h.2,Int.add_zero,bnd_id h.1 h.2]
theorem Gz(x y:Int):Z5 (Yd x y):=⟨Yn _,Yo _⟩
theorem I1{v:Int}(h0:-67584<=v)(h1:v<=67584):bnd v=v:=bnd_id (by omega) (by omega)
theorem Bq{x v:Int}(h:Z5 x)(h0:-67584<=v)(h1:v<=67584):Yd x v=bnd (x+v):=by
 unfold Yd;rw[bnd_id h.1 h.2,I1 h0 h1]
/-! ### Where a body comes -/
section
variable {sol:Int->Int->Bool} {r X Y P Q:Int}
end
/-! ### Rays -/
/-! ### Two slides, one behind the other, to the right -/
section
variable {sol:Int->Int->Bool} {r X Y:Int}
theorem I2{X:Int}(j:Nat):atS X 1 j=Yd X (j:Int):=by unfold atS;rw[Int.one_mul]
end
end
section
open Go.RowKit
def G6(zs:Array Value)(o:Nat):List Value->Array Value
 | []=>zs
 | v :: r=>G6 (zs.setIfInBounds o v) (o+1) r
theorem Br{g:Nat}{t:TypeId}:∀(vs:List Value) (o:Nat) (w:World) (zs:Array Value),w.heap[g]?=some (.cells zs t (0,0))->(w.setCells g o vs).heap[g]?=some (.cells (G6 zs o vs) t (0,0))
 | [],_,_,_,h=>h
 | v :: r,o,w,_,h=>Br r (o+1) _ _ (heap_setCell_same w g o _ _ v h)
theorem Bs{g:Nat}{a:World}:∀(vs:List Value) (o:Nat) (w:World),Fr (fun i=>i=g) a w->Fr (fun i=>i=g) a (w.setCells g o vs)
 | [],_,_,h=>h
 | v :: r,o,_,h=>Bs r (o+1) _ (h.setCell ⟨g,o,none⟩ v (.inl rfl))
theorem stz{o:Oper}{ρ:Operand->Value}{x y:Operand}{u:World}{g:Nat}{cs zs:Array Value}{ty t:TypeId}(hh:u.heap[g]?=some (.cells zs t (0,0)))(ho:o.op=.store ty x y)(hx:ρ x=.pointer (some ⟨g,0,none⟩))(hy:ρ y=.agg cs)(hi:(Tryz.prog.info? ty).map (·.size)=some cs.size)(h1:cs.all (·.oneCell')=true)(hz:G6 zs 0 cs.toList=cs/\zs.size=cs.size) :
  ∃u',(execOp ρ o).run Tryz.prog u=.ok .skip u'/\u'.heap[g]?=some (.cells cs t (0,0))/\Fr (fun i=>i=g) u u':=by
 refine⟨u.setCells g 0 cs.toList,?_,(Br cs.toList 0 u zs hh).trans (by rw[hz.1]),Bs _ _ _ (Fr.refl _ _)⟩;have ht:u.there g 0 cs.size:=fun j hj=>by
  refine⟨?_,?_⟩
  ·unfold World.cell?;simp[hh,hz.2,hj]
  ·unfold World.frozen?;simp[hh]
 unfold execOp;simp[ho,hx,hy,run_storeAt_mid u g 0 ty cs ht hi h1,Result.andThen]
theorem Bt{l:List Oper}{id:Nat}{Q:Exit->Act->World->Prop}{a:Act}{w:World}{on os:Oper}(n d:Nat)(zs cs:Array Value)(t:TypeId)
  (hon:l[n]?=some on) (hos:l[n+1]?=some os) (hnew:∀(w:World) (a:Act),(execOp a.eval on).run Tryz.prog w=.ok (.value (.pointer (some ⟨w.heap.size,0,none⟩))) (w.alloc (.cells zs t)))
  (h:∃A,(∀u,Yc w u->wpQuiet Tryz.prog l.toArray (fun w'=>∃z:Aft u,w'=z.u) (fun a'=>a'=A) (Y4 l n 1) a) /\
   (∀u g,u.heap[g]?=some (.cells zs t)->∃u',(execOp (A.put (some d) (.pointer (some ⟨g,0,none⟩))).eval os).run Tryz.prog u=.ok .skip u'/\u'.heap[g]?=some (.cells cs t)/\Fr (fun i=>i=g) u u') /\
   ∀J n K k,Q .normal (A.put (some d) (.pointer (some ⟨w.heap.size+J.size,0,none⟩))) (more ((more w J n).alloc (.cells cs t)) K k))
  (hm:Tryz.prog.follows .mixedOrders=true:=by kernel_rfl) (hB:mkB l n 1 [d]=true:=by kernel_rfl) (hdB:XD (Y4 l n 1) a.tmps.size=true:=by kernel_rfl) (hdd:decide (d<a.tmps.size)=true:=by kernel_rfl) :
  (Code.region id l.toArray true).wp Tryz.prog Q a w:=by
 obtain⟨A,h1,h2,h3⟩:=h;refine ZD n d _ _ hm hB hdB hdd hon hos hnew (fun w=>heap_alloc_new w _) ⟨A,h1,h2,fun u g hs hg hh=>?_⟩;obtain⟨J,n,K,k,rfl,rfl⟩:=WR hs hg hh;exact h3 J n K k
theorem nwz{p:Prop}(h:p:=by(intro w a;unfold execOp;simp only[];go_simp;try rfl)):p:=h
end
section
open Go.RowKit
open Pu Gp
theorem I3(a b c d:Int)(h:okb a b c d=true)(w:World):Ya 318 #[bx a b c d] w (.int .i64 0):=by
 have H:=K2 a b c d w;unfold chk at H;rwa [h,if_pos rfl]at H
end
section
open Go.RowKit
open Pu Gp Ap
theorem G7(x y:Int)(x0:-2147483647<=x)(x1:x<=2147483647)(y0:-2147483647<=y)(y1:y<=2147483647)(w:World) :
  Ya 323 #[pt x y] w (.tuple #[.int .i64 (dn x),.int .i64 (dn y)]):=by
 have p:=Ys w x y;have e1:=WY x;have e2:=WY y;have b1:=Vv x0 x1;have b2:=Vv y0 y1;obtain⟨b10,b11⟩:=b1;obtain⟨b20,b21⟩:=b2;have m1:0<=x % 4096:=by omega
 have m2:x % 4096<4096:=by omega
 have m3:0<=y % 4096:=by omega
 have m4:y % 4096<4096:=by omega
 have c0:=kC p.cells.1;have c1:=kC p.cells.2.1;have hne:=Aft.here (Yh w x y);go_enter Tryz.func323,Tryz.ntmps323;go_wp2_with fail;refine Yk (by kernel_rfl) (by kernel_rfl) ?_;repeat(go_big_quiet_step ((go_at_call 334;exact Calls.cl_same (Jy _ _))))
 refine wpQuiet_nil ?_;intro w3 h3;go_wp2_with fail;go_ret2
 exact⟨rfl,(sA w _).trans h3⟩
theorem I4(C R a b c d:Int)(s:ByteArray)(hz:s.size<=281474976710656)(h:okb a b c d=true)(w:World) :
    Ya 331 #[ar C R s,bx a b c d] w (.bool (tch (Yg C R s) a b c d)):=by
  have k:=VN h;unfold okB at k;obtain⟨k0,k1,k2,k3,k4,k5,k6,k7,k8,k9⟩:=k;have p:=(YA w C R s).sT (sA (Yi w C R s) (.cells #[.int .i64 a,.int .i64 b,.int .i64 c,.int .i64 d] 172));have q:=Xy (Yi w C R s) a b c d;simp only[size_alloc]at q;have HS0:=hid ((sA w (.cells #[.int .i64 C,.int .i64 R,.string s] 24)).trans (sA (Yi w C R s) (.cells #[.int .i64 a,.int .i64 b,.int .i64 c,.int .i64 d] 172)));have H:=hid h;have lr:=UD k8;have tb:=UD k9;have bc:=(Vv k4 k5).2;have bd:=(Vv k6 k7).2;have bl:=(Vv k0 k1).1;have bt:=(Vv k2 k3).1;obtain⟨T,eT⟩:∃T,T=tch (Yg C R s) a b c d:=⟨_,rfl⟩;have HT:=hid (show T=Vw (Yg C R s) (dn a) (dn b) (dn c) (dn d)from eT);rw[<- eT];clear h eT;go_enter Tryz.func331,Tryz.ntmps331;go_wp2_with fail;go_step3
  go_wp2_with fail;refine(I3 a b c d H.o _).mono ?_;rintro e w1 ⟨rfl,h1⟩;have p1:=p.sT h1;have q1:=q.sT h1;have HS1:=hid (HS0.o.trans h1);clear p q HS0 h1 H;obtain⟨d0,d1,d2,d3,df⟩:=q1.cells;go_wp2_with fail;refine(G7 a b (by omega) (by omega) (by omega) (by omega) _).mono ?_;rintro e w2 ⟨rfl,h2⟩;have p2:=p1.sT h2;have q2:=q1.sT h2;have HS2:=hid (HS1.o.trans h2);clear p1 q1 HS1 h2 d0 d1 d2 d3 df;obtain⟨d0,d1,d2,d3,df⟩:=q2.cells;go_wp2_with fail;refine(G7 c d (by omega) (by omega) (by omega) (by omega) _).mono ?_;rintro e w3 ⟨rfl,h3⟩;have p3:=p2.sT h3;have HS3:=hid (HS2.o.trans h3);clear p2 q2 HS2 h3 d0 d1 d2 d3 df;clear k0 k1 k2 k3 k4 k5 k6 k7 k8 k9;obtain⟨l,el⟩:∃l,dn a=l:=⟨_,rfl⟩;obtain⟨t,et⟩:∃t,dn b=t:=⟨_,rfl⟩;obtain⟨r,er⟩:∃r,dn c=r:=⟨_,rfl⟩;obtain⟨u,eu⟩:∃u,dn d=u:=⟨_,rfl⟩;rw[el]at lr bl HT⊢;rw[et]at tb bt HT⊢;rw[er]at lr bc HT⊢;rw[eu]at tb bd HT⊢;clear el et er eu;go_wp2_with fail;go_step3
  go_wp2_with fail;go_loopw [9,10] (fun v9 vj wr=>∃j:Int,v9=.bool false/\t<=j/\j<=u+1/\vj=.int .i64 j/\(∀i' j',l<=i'->i' <= r->t<=j'->j' < j->Yg C R s i' j'=false)/\Yc w3 wr) (fun _ vj _=>(u+1-intOf vj).toNat);case atStart=>exact⟨t,rfl,by omega,by omega,rfl,fun i' j' _ _ h1 h2=>by omega,Fr.refl _ _⟩
  case round =>
    obtain⟨j,rfl,hj1,hj2,rfl,hfree,hs⟩:=hrel;have HF:=hid hfree;have HS:=hid hs;have p2:=p3.sT hs;clear hfree hs;by_cases hlt:j<=u
    · obtain⟨c0,c1,c2,cf⟩:=p2.cells
      go_wp2_with fail;go_loopw [9,11] (fun v9 vi wt=>∃i:Int,v9=.bool false/\l<=i/\i<=r+1/\vi=.int .i64 i/\(∀i',l<=i'->i' < i->Yg C R s i' j=false)/\Yc wr wt) (fun _ vi _=>(r+1-intOf vi).toNat);case atStart=>exact⟨l,rfl,by omega,by omega,rfl,fun i' h1 h2=>by omega,Fr.refl _ _⟩
      case round =>
        obtain⟨i,rfl,hi1,hi2,rfl,hfr,hs2⟩:=hrel;have HF2:=hid hfr;have HS2:=hid hs2;obtain⟨g0,g1,g2,gf⟩:=(p2.sT hs2).cells;clear hfr hs2 c0 c1 c2 cf;by_cases hil:i<=r
        · go_wp2_with fail
          cases hsol:Yg C R s i j with
          | true =>
            refine(Xq C R i j s hz hsol _).mono ?_;rintro e w4 ⟨rfl,h4⟩;have HE:=hid (show true=T by rw[HT.o];exact(anyC_iff.2 ⟨i,j,hi1,hil,hj1,hlt,hsol⟩).symm);have HS4:=hid (((HS3.o.trans HS.o).trans HS2.o).trans h4);clear hsol h4 g0 g1 g2 gf;go_wp2_with fail;rw[Exit.noGoto_ret];go_ret;exact⟨ZK HE.o,HS4.o⟩
          | false =>
            refine(Xq C R i j s hz hsol _).mono ?_;rintro e w4 ⟨rfl,h4⟩;have HS4:=hid (HS2.o.trans h4);have HN:=hid hsol;clear hsol h4 g0 g1 g2 gf;go_wp2_with fail;go_roundw;case rel => exact⟨i + 1, rfl, by omega, by omega, by go_num, fun i' h1 h2 => by
                by_cases e:i'=i
                · subst e;exact HN.o
                · exact HF2.o i' h1 (by omega),HS4.o⟩
            case measure=>simp[intOf];omega
        · have hi:i=r+1:=by omega
          clear g0 g1 g2 gf;go_wp2_with fail;go_roundw;case rel => exact⟨j + 1, rfl, by omega, by omega, by go_num, fun i' j' h1 h2 h3 h4 => by
              by_cases e:j'=j
              · subst e;exact HF2.o i' h1 (by omega)
              · exact HF.o i' j' h1 h2 h3 (by omega),HS.o.trans HS2.o⟩
          case measure=>simp[intOf];omega
    · have HE:=hid (show false=T by rw[HT.o];exact(Gt fun i' j' h1 h2 h3 h4=>HF.o i' j' h1 h2 h3 (by omega)).symm)
      clear p2;go_wp2_with fail;first|rw[Exit.noGoto_ret]|skip
      go_ret;exact⟨ZK HE.o,HS3.o.trans HS.o⟩
theorem I5(C R x y r:Int)(s:ByteArray)(hz:s.size<=281474976710656)(hok:okb (Ye x r) (Ye y r) (Yd x r) (Yd y r)=true){t:Bool}(h:bdy (Yg C R s) r x y=t)(w:World) :
  Ya 331 #[ar C R s,bx (Ye x r) (Ye y r) (Yd x r) (Yd y r)] w (.bool t):=by
 have k:=I4 C R (Ye x r) (Ye y r) (Yd x r) (Yd y r) s hz hok w;rw[<- h];exact k
end
section
open Pu Gp Ap
def clp(n l m:Int):Int:=if n<l then l else if m<n then m else n
theorem I6(n:Int):clp n (-2048) 2048=stp n:=by
 have e1:bnd (-2048)=-2048:=by decide
 have e2:bnd 2048=2048:=by decide
 unfold clp stp Yl;rw[e1,e2];unfold bnd;repeat' split
 all_goals omega
theorem I7(n:Int):clp n 0 4096=Yl n 0 4096:=by
 have e1:bnd 0=0:=by decide
 have e2:bnd 4096=4096:=by decide
 unfold clp Yl;rw[e1,e2];unfold bnd;repeat' split
 all_goals omega
theorem G9{u d:Int}(h:0<=d):bnd (u+d)<=bnd u+d:=by
 unfold bnd;repeat' split
 all_goals omega
theorem Bu{x r:Int}{a d:Int}(hx:Z5 x)(a0:-8192<=a)(a1:a<=8192)(d0:0<=d)(d1:d<=8192)(r0:0<=r)(r1:r<=4096) :
  Yd (Yd x (a+d)) r<=Yd (Yd x a) r+d/\Yd (Yd x a) r<=Yd (Yd x (a+d)) r/\Ye (Yd x (a+d)) r<=Ye (Yd x a) r+d/\Ye (Yd x a) r<=Ye (Yd x (a+d)) r:=by
 have e1:=Bq (v:=a) hx (by omega) (by omega);have e2:=Bq (v:=a+d) hx (by omega) (by omega);have m1:bnd (x+a)<=bnd (x+(a+d)):=VL (by omega);have m2:bnd (x+(a+d))<=bnd (x+a)+d:=by
  have:=G9 (u:=x+a) d0;rw[show x+(a+d)=x+a+d by omega];exact this
 have er:=bnd_id (n:=r) (by omega) (by omega);unfold Yd Ye at *
 rw[e1,e2,er];obtain⟨u,eu⟩:∃u,bnd (x+a)=u:=⟨_,rfl⟩;obtain⟨v,ev⟩:∃v,bnd (x+(a+d))=v:=⟨_,rfl⟩;have bu:=And.intro (Yn (x+a)) (Yo (x+a));have bv:=And.intro (Yn (x+(a+d))) (Yo (x+(a+d)));rw[eu]at bu m1 m2⊢;rw[ev]at bv m1 m2⊢;clear eu ev e1 e2;rw[bnd_id bu.1 bu.2,bnd_id bv.1 bv.2];have l1:=G9 (u:=u+r) d0;have l2:=G9 (u:=u-r) d0;have k1:bnd (v+r)<=bnd (u+r+d):=VL (by omega);have k2:bnd (u+r)<=bnd (v+r):=VL (by omega);have k3:bnd (v-r)<=bnd (u-r+d):=VL (by omega);have k4:bnd (u-r)<=bnd (v-r):=VL (by omega);omega
theorem K8{sol:Int->Int->Bool}{r x y x' y':Int}(h:bdy sol r x y=false)(h1:dn (Ye x r)<=dn (Ye x' r))(h2:dn (Ye y r)<=dn (Ye y' r))(h3:dn (Yd x' r)<=dn (Yd x r))(h4:dn (Yd y' r)<=dn (Yd y r)):bdy sol r x' y'=false:=
 Gt fun _ _ k1 k2 k3 k4=>AV h (Int.le_trans h1 k1) (Int.le_trans k2 h3) (Int.le_trans h2 k3) (Int.le_trans k4 h4)
theorem Bv{x r:Int}{g d:Nat}(hx:Z5 x)(hg:g<=2048)(r0:0<=r)(r1:r<=4096)(hd:(d:Int)<=4095-Yd (atS x 1 g) r % 4096) :
  dn (Ye (atS x 1 g) r)<=dn (Ye (atS x 1 (g+d)) r)/\dn (Yd (atS x 1 (g+d)) r)<=dn (Yd (atS x 1 g) r):=by
 simp only[I2]at hd⊢;have h:=Bu (x:=x) (r:=r) (a:=(g:Int)) (d:=(d:Int)) hx (by omega) (by omega) (by omega) (by omega) r0 r1;rw[show((g+d:Nat):Int)=(g:Int)+(d:Int) by omega];obtain⟨h1,h2,h3,h4⟩:=h;unfold dn;omega
theorem I8{x:Int}(j:Nat):atS x (-1) j=Yd x (-(j:Int)):=by unfold atS;rw[show(-1:Int)*(j:Int)=-(j:Int) by omega]
theorem Bw{x r:Int}{g d:Nat}(hx:Z5 x)(hg:g<=2048)(r0:0<=r)(r1:r<=4096)(hd:(d:Int)<=Ye (atS x (-1) g) r % 4096) :
  dn (Ye (atS x (-1) g) r)<=dn (Ye (atS x (-1) (g+d)) r)/\dn (Yd (atS x (-1) (g+d)) r)<=dn (Yd (atS x (-1) g) r):=by
 simp only[I8]at hd⊢;have h:=Bu (x:=x) (r:=r) (a:=-((g:Int)+(d:Int))) (d:=(d:Int)) hx (by omega) (by omega) (by omega) (by omega) r0 r1;rw[show -((g:Int)+(d:Int))+(d:Int)=-(g:Int) by omega]at h;rw[show -((g+d:Nat):Int)=-((g:Int)+(d:Int)) by omega];obtain⟨h1,h2,h3,h4⟩:=h;unfold dn;omega
theorem KA{x:Int}(hx:Z5 x)(j:Nat):atS x 0 j=x:=by unfold atS;rw[Int.zero_mul,I0 hx]
def spv(a b c d p q:Int):Int:=if 0<p then 4095-c % 4096 else if p<0 then a % 4096 else if 0<q then 4095-d % 4096 else b % 4096
theorem I9(a b c d p q:Int):0<=spv a b c d p q/\spv a b c d p q<=4095:=by
 unfold spv;repeat' split
 all_goals omega
def slT(sol:Int->Int->Bool)(r x y p q:Int)(j:Nat):Bool:=bdy sol r (atS x (sgn p) j) (atS y (sgn q) j)
theorem IA{sol:Int->Int->Bool}{r x y p q:Int}{g d:Nat}(hx:Z5 x)(hy:Z5 y)(r0:0<=r)(r1:r<=4096)(hg:g<=2048)(hpq:p=0\/q=0)(hn:p≠0\/q≠0)(h:slT sol r x y p q g=false)
  (hd:(d:Int)<=spv (Ye (atS x (sgn p) g) r) (Ye (atS y (sgn q) g) r) (Yd (atS x (sgn p) g) r) (Yd (atS y (sgn q) g) r) p q):slT sol r x y p q (g+d)=false:=by
 unfold slT at *
 unfold spv at hd;by_cases p1:0<p
 ·rw[if_pos p1]at hd;have ep:sgn p=1:=by unfold sgn;rw[if_pos p1]
  have eq:sgn q=0:=by unfold sgn;rw[if_neg (by omega),if_neg (by omega)]
  simp only[ep,eq,KA hy]at h hd⊢;have k:=Bv hx hg r0 r1 hd;exact K8 h k.1 (Int.le_refl _) k.2 (Int.le_refl _)
 rw[if_neg p1]at hd;by_cases p2:p<0
 ·rw[if_pos p2]at hd;have ep:sgn p=-1:=by unfold sgn;rw[if_neg p1,if_pos p2]
  have eq:sgn q=0:=by unfold sgn;rw[if_neg (by omega),if_neg (by omega)]
  simp only[ep,eq,KA hy]at h hd⊢;have k:=Bw hx hg r0 r1 hd;exact K8 h k.1 (Int.le_refl _) k.2 (Int.le_refl _)
 rw[if_neg p2]at hd;have ep:sgn p=0:=by unfold sgn;rw[if_neg p1,if_neg p2]
 by_cases q1:0<q
 ·rw[if_pos q1]at hd;have eq:sgn q=1:=by unfold sgn;rw[if_pos q1]
  simp only[ep,eq,KA hx]at h hd⊢;have k:=Bv hy hg r0 r1 hd;exact K8 h (Int.le_refl _) k.1 (Int.le_refl _) k.2
 rw[if_neg q1]at hd;have eq:sgn q=-1:=by unfold sgn;rw[if_neg q1,if_pos (by omega)]
 simp only[ep,eq,KA hx]at h hd⊢;have k:=Bw hy hg r0 r1 hd;exact K8 h (Int.le_refl _) k.1 (Int.le_refl _) k.2
theorem B4{p:Int}{n j:Nat}(hn:p=0\/n=p.natAbs)(hn1:1<=n):(p*(j:Int)).tdiv (n:Int)=sgn p*(j:Int):=by
  rcases hn with rfl|rfl
  · simp[sgn]
  · have e:p=sgn p*(p.natAbs:Int):=by unfold sgn;(repeat' split);all_goals omega
    have e2:p*(j:Int)=sgn p*(j:Int)*(p.natAbs:Int):=by
      rw[Int.mul_assoc,Int.mul_comm (j:Int),<- Int.mul_assoc,<- e]
    rw[e2,Int.mul_tdiv_cancel _ (by omega)]
end
section
open Go.RowKit
open Pu Gp Ap
theorem B5(n l m:Int)(h:l<=m)(w:World):Yb 315 #[.int .i64 n,.int .i64 l,.int .i64 m] w (.int .i64 (clp n l m)):=by
 have e:clp n l m=min (max n l) m:=by
  unfold clp;repeat' split
  all_goals omega
 rw[e];clear e
 go_enter Tryz.func315,Tryz.ntmps315;go_wp2
 go_ret;exact⟨rfl,rfl⟩
theorem IB(n:Int)(w:World):Yb 315 #[.int .i64 n,.int .i64 (-2048),.int .i64 2048] w (.int .i64 (stp n)):=by
 have:=B5 n (-2048) 2048 (by omega) w;rw[I6]at this;exact this
theorem IC(n:Int)(w:World):Yb 315 #[.int .i64 n,.int .i64 0,.int .i64 4096] w (.int .i64 (Yl n 0 4096)):=by
 have:=B5 n 0 4096 (by omega) w;rw[I7]at this;exact this
theorem B6(x y:Int)(w:World):Ya 314 #[pt x y] w (pt (stp x) (stp y)):=by
 obtain⟨W,eW⟩:∃W,W=(Yh (Yh w x y) 0 0):=⟨_,rfl⟩;have p0:Pb W (w.heap.size) x y:=by rw[eW];have h:=Ys w x y;exact(h.sT (sA _ _))
 have c00:=kC p0.cells.1;have c01:=kC p0.cells.2.1;clear p0;have r:Pb W (w.heap.size+1) 0 0:=by rw[eW];have h:=Ys (Yh w x y) 0 0;simp only[size_alloc]at h;exact h
 have HF:=hid (show Yc w W by rw[eW];exact((sA w _).trans (sA _ _)));have HW:=hid eW;have hne:=Aft.here W;clear eW;have HB:=hid (show w.heap.size<=w.heap.size+1 by omega);go_enter Tryz.func314,Tryz.ntmps314;go_wp2_with fail;have e:=HW.o;simp only[Yh]at e;rw[<- e];clear e HW;refine Yp 6 (by kernel_rfl) (by kernel_rfl) ?_;simp only[tkd];repeat(go_big_quiet_step ((go_at_call 315;exact Calls.cl_same (IB _ _))))
 refine wpQuiet_nil ?_;intro w1 hs;clear hne c00 c01;have q:=r.sT hs;obtain⟨d0,d1,df⟩:=q.cells;go_wp2_with fail
 (try simp only[Exit.inBlock,Exit.then])
 exact bodyPost_ret ((q.set _ _).res rfl _ rfl) rfl ⟨rfl,Y3 (HF.o.trans hs) _ _ _ (.inr HB.o)⟩
theorem ID(ts:Array TypeId)(t:TypeId)(p q:Int)(w:World):(Builtin.max_ ts t #[.int .i64 p,.int .i64 (-p),.int .i64 q,.int .i64 (-q)]).run Tryz.prog w=.ok (.int .i64 ((max p.natAbs q.natAbs:Nat):Int)) w:=by
 have e:(Builtin.max_ ts t #[.int .i64 p,.int .i64 (-p),.int .i64 q,.int .i64 (-q)]).run Tryz.prog w=.ok (.int .i64 (if -q > (if q > (if -p > p then -p else p)then q else(if -p > p then -p else p))then -q else(if q > (if -p > p then -p else p)then q else(if -p > p then -p else p)))) w:=by
  simp[Builtin.max_,Builtin.max2]
 rw[e];congr 2
 repeat' split
 all_goals omega
theorem B7(p q:Int)(p0:-2048<=p)(p1:p<=2048)(q0:-2048<=q)(q1:q<=2048)(w:World):Ya 321 #[pt p q] w (.int .i64 ((max p.natAbs q.natAbs:Nat):Int)):=by
 have b:=Ys w p q;obtain⟨c0,c1,cf⟩:=b.cells;simp only[Yh]at c0 c1 cf;have hm:=ID #[3,3,3,3] 3 p q;obtain⟨V,eV⟩:∃V,((max p.natAbs q.natAbs:Nat):Int)=V:=⟨_,rfl⟩;rw[eV]at hm⊢;clear eV;go_enter Tryz.func321,Tryz.ntmps321;go_wp2_with fail;go_ret;exact⟨rfl,sA w _⟩
theorem KB{v:Int}(h0:-16777216<=v)(h1:v<=16777216):IntKind.i64.wrap v=v:=by rw[IntKind.wrap_i64];omega
theorem B8{v:Int}{n:Nat}(h0:-16777216<=v)(h1:v<=16777216):-16777216<=v.tdiv (n:Int)/\v.tdiv (n:Int)<=16777216:=by
 rcases Int.le_total 0 v with h|h
 ·rw[Int.tdiv_eq_ediv_of_nonneg h];have a:0<=v / (n:Int):=Int.ediv_nonneg h (by omega);have b:v / (n:Int)<=v:=Int.ediv_le_self _ h;omega
 ·have e:v.tdiv (n:Int)=-((-v) / (n:Int)):=by
   rw[<- Int.tdiv_eq_ediv_of_nonneg (show 0 <= -v by omega),Int.neg_tdiv];omega
  have a:0<=(-v) / (n:Int):=Int.ediv_nonneg (by omega) (by omega);have b:(-v) / (n:Int) <= -v:=Int.ediv_le_self _ (by omega);omega
theorem B9{p:Int}{k:Nat}(h0:-2048<=p)(h1:p<=2048)(hk:k<=8192):-16777216<=p*(k:Int)/\p*(k:Int)<=16777216:=by
 have:(p*(k:Int)).natAbs<=2048*8192:=by rw[Int.natAbs_mul];exact Nat.mul_le_mul (by omega) (by omega)
 omega
theorem BA(x y p q:Int)(j n:Nat)(p0:-2048<=p)(p1:p<=2048)(q0:-2048<=q)(q1:q<=2048)(hj:j<=8192)(hn:1<=n)(hn2:n<=2048)(w:World) :
  Ya 322 #[pt x y,pt p q,.int .i64 (j:Int),.int .i64 (n:Int)] w (pt (Yd x ((p*(j:Int)).tdiv (n:Int))) (Yd y ((q*(j:Int)).tdiv (n:Int)))):=by
 obtain⟨W,eW⟩:∃W,W=(Yh (Yh (Yh w x y) p q) 0 0):=⟨_,rfl⟩;have b0:Pb W w.heap.size x y:=by rw[eW];exact((Ys w x y).sT (sA _ _)).sT (sA _ _)
 have b1:Pb W (w.heap.size+1) p q:=by rw[eW];have h:=(Ys (Yh w x y) p q).sT (sA _ (.cells #[.int .i64 0,.int .i64 0] 57));simp only[size_alloc]at h;exact h
 have r:Pb W (w.heap.size+1+1) 0 0:=by rw[eW];have h:=Ys (Yh (Yh w x y) p q) 0 0;simp only[size_alloc]at h;exact h
 have HF:=hid (show Yc w W by rw[eW];exact((sA w _).trans (sA _ _)).trans (sA _ _));have c0:=kC b0.cells.1;have c1:=kC b0.cells.2.1;have c2:=kC b1.cells.1;have c3:=kC b1.cells.2.1;have HW:=hid eW;have hne:=Aft.here W;clear eW b0 b1;have HB:=hid (show w.heap.size<=w.heap.size+1+1 by omega);obtain⟨m0,m1⟩:=B9 p0 p1 hj;obtain⟨m2,m3⟩:=B9 q0 q1 hj;obtain⟨d0,d1⟩:=B8 (n:=n) m0 m1;obtain⟨d2,d3⟩:=B8 (n:=n) m2 m3;have W1:=KB d0 d1;have W2:=KB d2 d3;have W3:=KB m0 m1;have W4:=KB m2 m3;have nz:¬n=0:=by omega
 clear m0 m1 m2 m3 d0 d1 d2 d3;go_enter Tryz.func322,Tryz.ntmps322;go_wp2_with fail;have e:=HW.o;simp only[Yh]at e;rw[<- e];clear e HW;refine Yp 15 (by kernel_rfl) (by kernel_rfl) ?_;simp only[tkd];repeat(go_big_quiet_step ((go_at_call 283;exact Calls.cl (K1 _ _ _ _ _))))
 refine wpQuiet_nil ?_;intro w1 hs;clear hne c0 c1 c2 c3;have q:=r.sT hs;obtain⟨d0,d1,df⟩:=q.cells;go_wp2_with fail
 (try simp only[Exit.inBlock,Exit.then])
 exact bodyPost_ret ((q.set _ _).res rfl _ rfl) rfl ⟨rfl,Y3 (HF.o.trans hs) _ _ _ (.inr HB.o)⟩
theorem IE(a b c d p q:Int)(w:World):Ya 332 #[bx a b c d,pt p q] w (.int .i64 (spv a b c d p q)):=by
 have A0:=sA w (.cells #[.int .i64 a,.int .i64 b,.int .i64 c,.int .i64 d] 172);have A1:=sA (U2 w a b c d) (.cells #[.int .i64 p,.int .i64 q] 57);have b0:=(Xy w a b c d).sT A1;have b1:=Ys (U2 w a b c d) p q;simp only[size_alloc]at b1;have HS0:=hid (A0.trans A1);clear A0 A1;obtain⟨c0,c1,c2,c3,cf⟩:=b0.cells;obtain⟨g0,g1,gf⟩:=b1.cells;have m1:0<=c % 4096:=by omega
 have m2:c % 4096<4096:=by omega
 have m3:0<=d % 4096:=by omega
 have m4:d % 4096<4096:=by omega
 unfold spv;by_cases h1:0<p
 ·rw[if_pos h1];go_enter Tryz.func332,Tryz.ntmps332;go_wp2_with (go_at_call 334;refine(Jy _ _).mono ?_;rintro e w' ⟨he,hw⟩;rw[he,hw];clear he hw w');go_ret;exact⟨rfl,HS0.o⟩
 rw[if_neg h1];by_cases h2:p<0
 ·rw[if_pos h2];go_enter Tryz.func332,Tryz.ntmps332;go_wp2_with (go_at_call 334;refine(Jy _ _).mono ?_;rintro e w' ⟨he,hw⟩;rw[he,hw];clear he hw w');go_ret;exact⟨rfl,HS0.o⟩
 rw[if_neg h2];by_cases h3:0<q
 ·rw[if_pos h3];go_enter Tryz.func332,Tryz.ntmps332;go_wp2_with (go_at_call 334;refine(Jy _ _).mono ?_;rintro e w' ⟨he,hw⟩;rw[he,hw];clear he hw w');go_ret;exact⟨rfl,HS0.o⟩
 rw[if_neg h3];go_enter Tryz.func332,Tryz.ntmps332;go_wp2_with (go_at_call 334;refine(Jy _ _).mono ?_;rintro e w' ⟨he,hw⟩;rw[he,hw];clear he hw w');go_ret;exact⟨rfl,HS0.o⟩
theorem IF(x y r:Int)(h0:0<=r)(h1:r<=4096)(w:World):Ya 249 #[pt x y,.int .i64 r] w (bx (Ye x r) (Ye y r) (Yd x r) (Yd y r)):=by
 have h:=Gq x y r w;have e:Yl r 0 2147483647=r:=by
  unfold Yl;rw[bnd_id (n:=r) (by omega) (by omega),show bnd 0=0 by decide,show bnd 2147483647=2147483647 by decide];repeat' split
  all_goals omega
 rw[e]at h;exact h
theorem BB(C R x y p q r:Int)(s:ByteArray)(hz:s.size<=281474976710656)(hx:Z5 x)(hy:Z5 y)(r0:0<=r)(r1:r<=4096)(p0:-2048<=p)(p1:p<=2048)(q0:-2048<=q)(q1:q<=2048)(hpq:p=0\/q=0)(n k:Nat)
    (en:max p.natAbs q.natAbs=n) (ek:go (slT (Yg C R s) r x y p q) n=k) (w:World) :
    Ya 316 #[ar C R s,pt x y,pt p q,.int .i64 r] w (.tuple #[pt (atS x (sgn p) k) (atS y (sgn q) k),.bool (decide (k=n))]):=by
  have A0:=sA w (.cells #[.int .i64 C,.int .i64 R,.string s] 24);have A1:=sA (Yi w C R s) (.cells #[.int .i64 x,.int .i64 y] 57);have A2:=sA (Yh (Yi w C R s) x y) (.cells #[.int .i64 p,.int .i64 q] 57);have A3:=sA (Yh (Yh (Yi w C R s) x y) p q) (.cells #[.int .i64 0,.int .i64 0] 57);have a0:=(((YA w C R s).sT A1).sT A2).sT A3;have b0:=((Ys (Yi w C R s) x y).sT A2).sT A3;have c0:=(Ys (Yh (Yi w C R s) x y) p q).sT A3;have d0:=Ys (Yh (Yh (Yi w C R s) x y) p q) 0 0;simp only[size_alloc]at b0 c0 d0;have HS0:=hid (((A0.trans A1).trans A2).trans A3);clear A0 A1 A2 A3;have HB:=hid (show w.heap.size<=w.heap.size+1/\w.heap.size<=w.heap.size+1+1/\w.heap.size<=w.heap.size+1+1+1 by omega);have n1:n<=2048:=by omega
  have HE:=hid (And.intro en ek);have HN:Hid (∀u:World,Ya 321 #[pt p q] u (.int .i64 (n:Int))):=hid (fun u=>by
    have h:=B7 p q p0 p1 q0 q1 u;rw[en]at h;exact h)
  clear en ek;go_enter Tryz.func316,Tryz.ntmps316;obtain⟨g0,g1,gf⟩:=c0.cells;go_wp2_with fail;refine(HN.o _).mono ?_;rintro e w1 ⟨rfl,h1⟩;have a1:=a0.sT h1;have b1:=b0.sT h1;have c1:=c0.sT h1;have d1:=d0.sT h1;have HS1:=hid (HS0.o.trans h1);clear a0 b0 c0 d0 HS0 h1 g0 g1 gf HN;have nz:n=0\/1<=n:=by omega
  have HP:Hid (∀(g:Nat),g<=8191->1<=n->∀u:World,Ya 322 #[pt x y,pt p q,.int .i64 (g:Int),.int .i64 (n:Int)] u (pt (atS x (sgn p) g) (atS y (sgn q) g))):=hid (fun g hg h1 u=>by
    have h:=BA x y p q g n p0 p1 q0 q1 (by omega) h1 n1 u;have en:=HE.o.1;rw[B4 (p:=p) (n:=n) (j:=g) (by omega) h1,B4 (p:=q) (n:=n) (j:=g) (by omega) h1]at h;exact h)
  have HQ:=hid (show 1<=n->(p≠0\/q≠0)from fun h=>by have en:=HE.o.1;omega);go_wp2_with fail;go_loopw [11] (fun vg wr=>∃g:Nat,g<=n+4096/\vg=.int .i64 (g:Int)/\(∀i,1<=i->i<=g->slT (Yg C R s) r x y p q i=false)/\Ab wr w.heap.size C R s/\Pb wr (w.heap.size+1) x y/\Pb wr (w.heap.size+1+1) p q/\Pb wr (w.heap.size+1+1+1) 0 0/\Yc w wr) (fun vg _=>n-(intOf vg).toNat);case atStart=>exact⟨0,by omega,rfl,fun i h1 h2=>by omega,a1,b1,c1,d1,HS1.o⟩
  case round =>
    obtain⟨g,hg,rfl,hfree,a2,b2,c2,d2,hs⟩:=hrel;have HF:=hid hfree;have HS2:=hid hs;clear hfree hs a1 b1 c1 d1 HS1;by_cases hlt:g<n
    · obtain⟨X1,eX1⟩:∃X1,atS x (sgn p) (g+1)=X1:=⟨_,rfl⟩
      obtain⟨Y1,eY1⟩:∃Y1,atS y (sgn q) (g+1)=Y1:=⟨_,rfl⟩;have HC:Hid (∀u:World,Ya 322 #[pt x y,pt p q,.int .i64 ((g:Int)+1),.int .i64 (n:Int)] u (pt X1 Y1)):=hid (fun u=>by
        have h:=HP.o (g+1) (by omega) (by omega) u;rw[eX1,eY1,show((g+1:Nat):Int)=(g:Int)+1 by omega]at h;exact h)
      have HT:=hid (show slT (Yg C R s) r x y p q (g+1)=bdy (Yg C R s) r X1 Y1 by unfold slT;rw[eX1,eY1]);have HV:=hid (show ∀d:Nat,(d:Int)<=spv (Ye X1 r) (Ye Y1 r) (Yd X1 r) (Yd Y1 r) p q->slT (Yg C R s) r x y p q (g+1)=false->slT (Yg C R s) r x y p q (g+1+d)=false from fun d hd h =>
        IA hx hy r0 r1 (by omega) hpq (HQ.o (by omega)) h (by rw[eX1,eY1];exact hd))
      have HO:=hid (WZ X1 Y1 r r0 r1);clear eX1 eY1;obtain⟨m0,m1,mf⟩:=b2.cells;obtain⟨g0,g1,gf⟩:=c2.cells;go_wp2_with fail;refine(HC.o _).mono ?_;rintro e w3 ⟨rfl,h3⟩;have a3:=a2.sT h3;have b3:=b2.sT h3;have c3:=c2.sT h3;have d3:=d2.sT h3;have HS3:=hid (HS2.o.trans h3);clear a2 b2 c2 d2 HS2 h3 m0 m1 mf g0 g1 gf HC;go_wp2_with fail;refine(IF X1 Y1 r r0 r1 _).mono ?_;rintro e w4 ⟨rfl,h4⟩;obtain⟨x1,e1⟩:∃v,Ye X1 r=v:=⟨_,rfl⟩;obtain⟨y1,e2⟩:∃v,Ye Y1 r=v:=⟨_,rfl⟩;obtain⟨x2,e3⟩:∃v,Yd X1 r=v:=⟨_,rfl⟩;obtain⟨y2,e4⟩:∃v,Yd Y1 r=v:=⟨_,rfl⟩;have HU:Hid (∀t,bdy (Yg C R s) r X1 Y1=t->∀u:World,Ya 331 #[ar C R s,bx x1 y1 x2 y2] u (.bool t)):=hid (fun t ht u=>by
        have h:=I5 C R X1 Y1 r s hz HO.o ht u;rw[e1,e2,e3,e4]at h;exact h)
      rw[e1,e2,e3,e4]at HV⊢;clear e1 e2 e3 e4 HO;have A4:=sA w4 (.cells #[.int .i64 x1,.int .i64 y1,.int .i64 x2,.int .i64 y2] 172);have a4:=(a3.sT h4).sT A4;have b4:=(b3.sT h4).sT A4;have c4:=(c3.sT h4).sT A4;have d4:=(d3.sT h4).sT A4;have v4:=Xy w4 x1 y1 x2 y2;have HS4:=hid ((HS3.o.trans h4).trans A4);clear a3 b3 c3 d3 HS3 h4 A4;obtain⟨i0,i1,i2,jf⟩:=a4.cells;obtain⟨o0,o1,o2,o3,of⟩:=v4.cells;go_wp2_with fail;cases hb:bdy (Yg C R s) r X1 Y1 with
      | true =>
        have HK:=hid (show g=k by
          rw[<- HE.o.2];exact(XF (by omega) (fun i h1 h2=>HF.o i h1 h2) (fun _=>HT.o.trans hb)).symm)
        refine(HU.o true hb _).mono ?_;rintro e w5 ⟨rfl,h5⟩;have b5:=b4.sT h5;have c5:=c4.sT h5;have d5:=d4.sT h5;have HS5:=hid (HS4.o.trans h5);clear hb a4 b4 c4 d4 v4 HS4 h5 i0 i1 i2 jf o0 o1 o2 o3 of HU HV HT HF;obtain⟨m0,m1,mf⟩:=b5.cells;obtain⟨g0,g1,gf⟩:=c5.cells;go_wp2_with fail;refine(HP.o g (by omega) (by omega) _).mono ?_;rintro e w6 ⟨rfl,h6⟩;have d6:=d5.sT h6;have HS6:=hid (HS5.o.trans h6);clear b5 c5 d5 HS5 h6 m0 m1 mf g0 g1 gf;obtain⟨o0,o1,of⟩:=d6.cells;go_wp2_with fail
        (try simp only[Exit.inBlock,Exit.then])
        exact bodyPost_ret ((d6.set _ _).rest rfl _ _ rfl rfl) rfl ⟨by rw[HK.o,decide_eq_false (show ¬k=n by have:=HK.o;omega)];rfl,Y3 HS6.o _ _ _ (.inr HB.o.2.2)⟩
      | false =>
        refine(HU.o false hb _).mono ?_;rintro e w5 ⟨rfl,h5⟩;have HT1:=hid (HT.o.trans hb);have a5:=a4.sT h5;have b5:=b4.sT h5;have c5:=c4.sT h5;have d5:=d4.sT h5;have v5:=v4.sT h5;have HS5:=hid (HS4.o.trans h5);clear hb a4 b4 c4 d4 v4 HS4 h5 i0 i1 i2 jf o0 o1 o2 o3 of HU HT;obtain⟨g0,g1,gf⟩:=c5.cells;obtain⟨o0,o1,o2,o3,of⟩:=v5.cells;go_wp2_with fail;refine(IE x1 y1 x2 y2 p q _).mono ?_;rintro e w6 ⟨rfl,h6⟩;have sb:=I9 x1 y1 x2 y2 p q;obtain⟨d,ed⟩:∃d:Nat,spv x1 y1 x2 y2 p q=(d:Int):=⟨(spv x1 y1 x2 y2 p q).toNat,by omega⟩;rw[ed]at sb HV⊢;have dl:d<=4095:=by omega
        have a6:=a5.sT h6;have b6:=b5.sT h6;have c6:=c5.sT h6;have d6:=d5.sT h6;have HS6:=hid (HS5.o.trans h6);clear a5 b5 c5 d5 v5 HS5 h6 g0 g1 gf o0 o1 o2 o3 of ed sb;go_wp2_with fail;go_roundw;case rel => exact⟨g + (1 + d), by omega, by go_num, fun i h1 h2 => by
            by_cases e:i<=g
            · exact HF.o i h1 e
            · have h:=HV.o (i-(g+1)) (by omega) HT1.o
              rw[show g+1+(i-(g+1))=i by omega]at h;exact h,a6,b6,c6,d6,HS6.o⟩
        case measure=>simp[intOf];omega
    · have HK:=hid (show n = k by
        rw[<- HE.o.2];exact(XF (Nat.le_refl _) (fun i h1 h2=>HF.o i h1 (by omega)) (fun h=>by omega)).symm)
      obtain⟨m0,m1,mf⟩:=b2.cells;obtain⟨g0,g1,gf⟩:=c2.cells;go_wp2_with fail;refine(K1 x y p q _).mono ?_;rintro e w3 ⟨rfl,h3⟩;have d3:=d2.sT h3;have HS3:=hid (HS2.o.trans h3);clear b2 c2 d2 HS2 h3 m0 m1 mf g0 g1 gf a2;have HX:=hid (show Yd x p=atS x (sgn p) k/\Yd y q=atS y (sgn q) k by
        have en:=HE.o.1;have ek:=HK.o;unfold atS;have f1:sgn p*(k:Int)=p:=by
          unfold sgn;repeat' split
          all_goals omega
        have f2:sgn q*(k:Int)=q:=by
          unfold sgn;repeat' split
          all_goals omega
        rw[f1,f2];exact⟨rfl,rfl⟩)
      obtain⟨o0,o1,of⟩:=d3.cells;go_wp2_with fail
      (try simp only[Exit.inBlock,Exit.then])
      exact bodyPost_ret ((d3.set _ _).rest rfl _ _ rfl rfl) rfl ⟨by rw[<- HX.o.1,<- HX.o.2,decide_eq_true HK.o.symm];rfl,Y3 HS3.o _ _ _ (.inr HB.o.2.2)⟩
theorem IG(C R x y p q n:Int)(s:ByteArray)(hz:s.size<=281474976710656)(X Y P Q r X1 Y1 X2 Y2:Int)(k l:Nat)
  (eX:bnd x=X) (eY:bnd y=Y) (eP:stp p=P) (eQ:stp q=Q) (er:Yl n 0 4096=r) (ek:kX (Yg C R s) r X Y P=k) (eX1:Yd X (sgn P*(k:Int))=X1) (eY1:Yd Y 0=Y1)
  (el:kY (Yg C R s) r X1 Y1 Q=l) (eX2:Yd X1 0=X2) (eY2:Yd Y1 (sgn Q*(l:Int))=Y2) (w:World) :
  Ya 286 #[ar C R s,pt x y,pt p q,.int .i64 n] w (.tuple #[pt X2 Y2,.int .i64 (ZM k P.natAbs l Q.natAbs)]):=by
 obtain⟨W,eW⟩:∃W,W=Yh (Yh (Yh (Yi w C R s) x y) p q) 0 0:=⟨_,rfl⟩;have A1:=sA (Yi w C R s) (.cells #[.int .i64 x,.int .i64 y] 57);have A2:=sA (Yh (Yi w C R s) x y) (.cells #[.int .i64 p,.int .i64 q] 57);have A3:=sA (Yh (Yh (Yi w C R s) x y) p q) (.cells #[.int .i64 0,.int .i64 0] 57);have a0:=(((YA w C R s).sT A1).sT A2).sT A3;have b0:=((Ys (Yi w C R s) x y).sT A2).sT A3;have c0:=(Ys (Yh (Yi w C R s) x y) p q).sT A3;have d0:=Ys (Yh (Yh (Yi w C R s) x y) p q) 0 0;have HS0:=hid ((((sA w (.cells #[.int .i64 C,.int .i64 R,.string s] 24)).trans A1).trans A2).trans A3);simp only[size_alloc]at b0 c0 d0;simp only[Yh,Yi]at eW a0 b0 c0 d0 HS0;rw[<- eW]at a0 b0 c0 d0 HS0;clear A1 A2 A3;have HN:=hid (show w.heap.size≠w.heap.size+1/\w.heap.size≠w.heap.size+1+1/\w.heap.size+1≠w.heap.size+1+1/\w.heap.size+1+1≠w.heap.size+1/\w.heap.size+1+1+1≠w.heap.size+1/\w.heap.size+1+1+1≠w.heap.size+1+1 by omega);have HB:=hid (show w.heap.size<=w.heap.size+1/\w.heap.size<=w.heap.size+1+1/\w.heap.size<=w.heap.size+1+1+1 by omega);have pb:=Vx p;have qb:=Vx q;rw[eP]at pb;rw[eQ]at qb;obtain⟨p0,p1⟩:=pb;obtain⟨q0,q1⟩:=qb;have rb:=Bp n;rw[er]at rb;obtain⟨r0,r1⟩:=rb;have hX:Z5 X:=by rw[<- eX];exact⟨Yn _,Yo _⟩
 have hY:Z5 Y:=by rw[<- eY];exact⟨Yn _,Yo _⟩
 have hX1:Z5 X1:=by rw[<- eX1];exact Gz _ _
 have hY1:Z5 Y1:=by rw[<- eY1];exact Gz _ _
 have kl:k<=P.natAbs:=by rw[<- ek];exact Bi ..
 have ll:l<=Q.natAbs:=by rw[<- el];exact Bj ..
 have HK:Hid (∀u:World,Ya 316 #[ar C R s,pt X Y,pt P 0,.int .i64 r] u (.tuple #[pt X1 Y1,.bool (decide (k=P.natAbs))])):=hid (fun u=>by
  have h:=BB C R X Y P 0 r s hz hX hY r0 r1 p0 p1 (by omega) (by omega) (.inr rfl) P.natAbs k (by simp) (by rw[<- ek];rfl) u;rw[show atS X (sgn P) k=X1 from eX1,show atS Y (sgn 0) k=Y1 by rw[<- eY1];unfold atS;rw[show sgn 0=0 by decide,Int.zero_mul]]at h;exact h)
 have HL:Hid (∀u:World,Ya 316 #[ar C R s,pt X1 Y1,pt 0 Q,.int .i64 r] u (.tuple #[pt X2 Y2,.bool (decide (l=Q.natAbs))])):=hid (fun u=>by
  have h:=BB C R X1 Y1 0 Q r s hz hX1 hY1 r0 r1 (by omega) (by omega) q0 q1 (.inl rfl) Q.natAbs l (by simp) (by rw[<- el];rfl) u;rw[show atS Y1 (sgn Q) l=Y2 from eY2,show atS X1 (sgn 0) l=X2 by rw[<- eX2];unfold atS;rw[show sgn 0=0 by decide,Int.zero_mul]]at h;exact h)
 have HC1:Hid (∀u:World,Ya 136 #[pt x y] u (pt X Y)):=hid (fun u=>by
  have h:=UB x y u;rw[eX,eY]at h;exact h)
 have HC2:Hid (∀u:World,Ya 314 #[pt p q] u (pt P Q)):=hid (fun u=>by
  have h:=B6 p q u;rw[eP,eQ]at h;exact h)
 have HC3:Hid (∀u:World,Yb 315 #[.int .i64 n,.int .i64 0,.int .i64 4096] u (.int .i64 r)):=hid (fun u=>by
  have h:=IC n u;rw[er]at h;exact h)
 clear eX eY eP eQ er ek eX1 eY1 el eX2 eY2 hX hY hX1 hY1;have f0:=kC b0.cells.1;have f1:=kC b0.cells.2.1;have f2:=kC c0.cells.1;have f3:=kC c0.cells.2.1;have hne:=Aft.here W;have HW:=hid eW;clear eW;go_enter Tryz.func286,Tryz.ntmps286;go_wp2_with fail;have e:=HW.o;rw[<- e];clear e HW;refine Yp 6 (by kernel_rfl) (by kernel_rfl) ?_;simp only[tkd];repeat(go_big_quiet_step ((first|(go_at_call 136;exact Calls.cl (HC1.o _))|(go_at_call 314;exact Calls.cl (HC2.o _))|(go_at_call 315;exact Calls.cl_same (HC3.o _)))))
 refine wpQuiet_nil ?_;intro w1 h1;clear hne f0 f1 f2 f3 HC1 HC2 HC3;have b1:=(b0.sT h1).set X Y;have c1:=Yv (c0.sT h1) HN.o.2.2.2.1 X Y;have a1:=ZL (a0.sT h1) HN.o.1 X Y;have d1:=Yv (d0.sT h1) HN.o.2.2.2.2.1 X Y;have HS1:=hid (Y3 (HS0.o.trans h1) (w.heap.size+1) X Y (.inr HB.o.1));have b2:=Yv b1 HN.o.2.2.1 P Q;have a2:=ZL a1 HN.o.2.1 P Q;have c2:=c1.set P Q;have d2:=Yv d1 HN.o.2.2.2.2.2 P Q;have HS2:=hid (Y3 HS1.o (w.heap.size+1+1) P Q (.inr HB.o.2.1));obtain⟨f0,f1,ff⟩:=(b0.sT h1).cells;obtain⟨m0,m1,mf⟩:=c1.cells;clear a0 b0 c0 d0 HS0 h1 a1 b1 c1 d1 HS1;obtain⟨g0,g1,gf⟩:=c2.cells;obtain⟨i0,i1,i2,jf⟩:=a2.cells;obtain⟨o0,o1,of⟩:=b2.cells;have hk:(decide (k=P.natAbs)=true/\(if k<P.natAbs then(1:Int)else 0)=0)\/(decide (k=P.natAbs)=false/\(if k<P.natAbs then(1:Int)else 0)=1):=by
  by_cases h:k=P.natAbs
  ·exact .inl ⟨decide_eq_true h,if_neg (by omega)⟩
  ·exact .inr ⟨decide_eq_false h,if_pos (by omega)⟩
 have hl:(decide (l=Q.natAbs)=true/\(if l<Q.natAbs then(2:Int)else 0)=0)\/(decide (l=Q.natAbs)=false/\(if l<Q.natAbs then(2:Int)else 0)=2):=by
  by_cases h:l=Q.natAbs
  ·exact .inl ⟨decide_eq_true h,if_neg (by omega)⟩
  ·exact .inr ⟨decide_eq_false h,if_pos (by omega)⟩
 rcases hk with⟨hk,sk⟩|⟨hk,sk⟩<;>rcases hl with⟨hl,sl⟩|⟨hl,sl⟩
 all_goals
  have HD:=hid (And.intro sk sl);clear sk sl kl ll;rw[hk]at HK;rw[hl]at HL;clear hk hl;go_wp2_with fail;refine(HK.o _).mono ?_;rintro e w3 ⟨rfl,h3⟩;have b3:=(b2.sT h3).set X1 Y1;have c3:=Yv (c2.sT h3) HN.o.2.2.2.1 X1 Y1;have a3:=ZL (a2.sT h3) HN.o.1 X1 Y1;have d3:=Yv (d2.sT h3) HN.o.2.2.2.2.1 X1 Y1;have HS3:=hid (Y3 (Yc.trans HS2.o h3) (w.heap.size+1) X1 Y1 (.inr HB.o.1));clear f0 f1 ff m0 m1 mf g0 g1 gf i0 i1 i2 jf o0 o1 of;obtain⟨f0,f1,ff⟩:=(b2.sT h3).cells;clear a2 b2 c2 d2 HS2 h3;obtain⟨g0,g1,gf⟩:=c3.cells;obtain⟨i0,i1,i2,jf⟩:=a3.cells;obtain⟨o0,o1,of⟩:=b3.cells;go_wp2_with fail;refine(HL.o _).mono ?_;rintro e w4 ⟨rfl,h4⟩;have b4:=(b3.sT h4).set X2 Y2;have d4:=Yv (d3.sT h4) HN.o.2.2.2.2.1 X2 Y2;have HS4:=hid (Y3 (Yc.trans HS3.o h4) (w.heap.size+1) X2 Y2 (.inr HB.o.1));clear f0 f1 ff g0 g1 gf i0 i1 i2 jf o0 o1 of;obtain⟨f0,f1,ff⟩:=(b3.sT h4).cells;clear a3 b3 c3 d3 HS3 h4;obtain⟨o0,o1,of⟩:=b4.cells;obtain⟨i0,i1,jf⟩:=d4.cells;go_wp2_with fail
  (try simp only[Exit.inBlock,Exit.then])
  exact bodyPost_ret ((d4.set _ _).rest rfl _ _ rfl rfl) rfl ⟨by unfold ZM;rw[HD.o.1,HD.o.2];rfl,Y3 HS4.o _ _ _ (.inr HB.o.2.2)⟩
theorem IH(C R x y p q:Int)(s:ByteArray)(hz:s.size<=281474976710656)(X Y P Q:Int)(n k:Nat)
    (eX:bnd x=X) (eY:bnd y=Y) (eP:stp p=P) (eQ:stp q=Q) (en:VV P Q=n) (ek:go (ZE (Yg C R s) X Y P Q n) n=k) (w:World) :
    Ya 291 #[ar C R s,pt x y,pt p q] w (.tuple #[pt (rp X P n k) (rp Y Q n k),.bool (decide (k<n))]):=by
  obtain⟨W,eW⟩:∃W,W=Yh (Yh (Yh (Yi w C R s) x y) p q) 0 0:=⟨_,rfl⟩;have A1:=sA (Yi w C R s) (.cells #[.int .i64 x,.int .i64 y] 57);have A2:=sA (Yh (Yi w C R s) x y) (.cells #[.int .i64 p,.int .i64 q] 57);have A3:=sA (Yh (Yh (Yi w C R s) x y) p q) (.cells #[.int .i64 0,.int .i64 0] 57);have a0:=(((YA w C R s).sT A1).sT A2).sT A3;have b0:=((Ys (Yi w C R s) x y).sT A2).sT A3;have c0:=(Ys (Yh (Yi w C R s) x y) p q).sT A3;have d0:=Ys (Yh (Yh (Yi w C R s) x y) p q) 0 0;have HS0:=hid ((((sA w (.cells #[.int .i64 C,.int .i64 R,.string s] 24)).trans A1).trans A2).trans A3);simp only[size_alloc]at b0 c0 d0;simp only[Yh,Yi]at eW a0 b0 c0 d0 HS0;rw[<- eW]at a0 b0 c0 d0 HS0;clear A1 A2 A3;have HN:=hid (show w.heap.size≠w.heap.size+1/\w.heap.size≠w.heap.size+1+1/\w.heap.size+1≠w.heap.size+1+1/\w.heap.size+1+1≠w.heap.size+1/\w.heap.size+1+1+1≠w.heap.size+1/\w.heap.size+1+1+1≠w.heap.size+1+1 by omega);have HB:=hid (show w.heap.size<=w.heap.size+1/\w.heap.size<=w.heap.size+1+1/\w.heap.size<=w.heap.size+1+1+1 by omega);have pb:=Vx p;have qb:=Vx q;rw[eP]at pb;rw[eQ]at qb;obtain⟨p0,p1⟩:=pb;obtain⟨q0,q1⟩:=qb;have n1:n<=32:=by rw[<- en];unfold VV;omega
  have HC1:Hid (∀u:World,Ya 136 #[pt x y] u (pt X Y)):=hid (fun u=>by
    have h:=UB x y u;rw[eX,eY]at h;exact h)
  have HC2:Hid (∀u:World,Ya 314 #[pt p q] u (pt P Q)):=hid (fun u=>by
    have h:=B6 p q u;rw[eP,eQ]at h;exact h)
  have HE:=hid (And.intro en ek);have hd:(((max P.natAbs Q.natAbs:Nat):Int)+64-1) / 64=(n:Int):=by unfold VV at en;omega
  obtain⟨M,eM⟩:∃M:Nat,max P.natAbs Q.natAbs=M:=⟨_,rfl⟩;have hM:M<=2048:=by omega
  have HC3:Hid (∀u:World,Ya 321 #[pt P Q] u (.int .i64 (M:Int))):=hid (fun u=>by
    have h:=B7 P Q p0 p1 q0 q1 u;rw[eM]at h;exact h)
  rw[eM]at hd;clear eX eY eP eQ ek eM en;have f0:=kC b0.cells.1;have f1:=kC b0.cells.2.1;have f2:=kC c0.cells.1;have f3:=kC c0.cells.2.1;have hne:=Aft.here W;have HW:=hid eW;clear eW;go_enter Tryz.func291,Tryz.ntmps291;go_wp2_with fail;have e:=HW.o;rw[<- e];clear e HW;refine Yp 4 (by kernel_rfl) (by kernel_rfl) ?_;simp only[tkd];repeat(go_big_quiet_step ((first|(go_at_call 136;exact Calls.cl (HC1.o _))|(go_at_call 314;exact Calls.cl (HC2.o _)))))
  refine wpQuiet_nil ?_;intro w1 h1;clear hne f0 f1 f2 f3 HC1 HC2;have b1:=(b0.sT h1).set X Y;have c1:=Yv (c0.sT h1) HN.o.2.2.2.1 X Y;have a1:=ZL (a0.sT h1) HN.o.1 X Y;have d1:=Yv (d0.sT h1) HN.o.2.2.2.2.1 X Y;have HS1:=hid (Y3 (HS0.o.trans h1) (w.heap.size+1) X Y (.inr HB.o.1));have b2:=Yv b1 HN.o.2.2.1 P Q;have a2:=ZL a1 HN.o.2.1 P Q;have c2:=c1.set P Q;have d2:=Yv d1 HN.o.2.2.2.2.2 P Q;have HS2:=hid (Y3 HS1.o (w.heap.size+1+1) P Q (.inr HB.o.2.1));obtain⟨f0,f1,ff⟩:=(b0.sT h1).cells;obtain⟨m0,m1,mf⟩:=c1.cells;clear a0 b0 c0 d0 HS0 h1 a1 b1 c1 d1 HS1;obtain⟨g0,g1,gf⟩:=c2.cells;go_wp2_with fail;refine(HC3.o _).mono ?_;rintro e w3 ⟨rfl,h3⟩;have A3:=sA w3 (.cells #[.int .i64 X,.int .i64 Y] 57);have a3:=(a2.sT h3).sT A3;have b3:=(b2.sT h3).sT A3;have c3:=(c2.sT h3).sT A3;have d3:=(d2.sT h3).sT A3;have v3:=Ys w3 X Y;have HS3:=hid ((Yc.trans HS2.o h3).trans A3);have NL:=hid (show w.heap.size+1+1+1<w3.heap.size from Yz (d2.sT h3));clear f0 f1 ff m0 m1 mf g0 g1 gf HC3;obtain⟨o0,o1,of⟩:=(b2.sT h3).cells;clear a2 b2 c2 d2 HS2 h3 A3;have HP:Hid (∀(g:Nat),g<=33->1<=n->∀u:World,Ya 322 #[pt X Y,pt P Q,.int .i64 (g:Int),.int .i64 (n:Int)] u (pt (Yd X ((P*(g:Int)).tdiv (n:Int))) (Yd Y ((Q*(g:Int)).tdiv (n:Int))))):=hid (fun g hg h1 u =>
    BA X Y P Q g n p0 p1 q0 q1 (by omega) h1 (by omega) u)
  go_wp2_with fail;rw[hd];clear hd o0 o1 of;go_loopw [10] (fun vj wr => ∃j : Nat, 1 <= j /\ j <= n + 1 /\ vj = .int .i64 (j : Int) /\ (∀i, 1 <= i -> i < j -> ZE (Yg C R s) X Y P Q n i = false) /\ Ab wr w.heap.size C R s /\ Pb wr (w.heap.size + 1) X Y /\ Pb wr (w.heap.size + 1 + 1) P Q /\ Pb wr (w.heap.size + 1 + 1 + 1) 0 0 /\
      Pb wr w3.heap.size (rp X P n (j-1)) (rp Y Q n (j-1))/\Yc w wr) (fun vj _=>n+1-(intOf vj).toNat)
  case atStart=>exact⟨1,by omega,by omega,rfl,fun i h1 h2=>by omega,a3,b3,c3,d3,v3,HS3.o⟩
  case round =>
    obtain⟨j,j1,j2,rfl,hfree,a4,b4,c4,d4,v4,hs⟩:=hrel;have HF:=hid hfree;have HS4:=hid hs;clear hfree hs a3 b3 c3 d3 v3 HS3;by_cases hlt:j<=n
    · obtain⟨NX,eNX⟩:∃NX,Yd X ((P*(j:Int)).tdiv (n:Int))=NX:=⟨_,rfl⟩
      obtain⟨NY,eNY⟩:∃NY,Yd Y ((Q*(j:Int)).tdiv (n:Int))=NY:=⟨_,rfl⟩;have bX:-2147483647<=NX/\NX<=2147483647:=by rw[<- eNX];exact⟨Yn _,Yo _⟩
      have bY:-2147483647<=NY/\NY<=2147483647:=by rw[<- eNY];exact⟨Yn _,Yo _⟩
      have HR:=hid (show rp X P n j=NX/\rp Y Q n j=NY by
        unfold rp;rw[if_neg (by omega),if_neg (by omega)];exact⟨eNX,eNY⟩)
      have HA:Hid (∀u:World,Ya 322 #[pt X Y,pt P Q,.int .i64 (j:Int),.int .i64 (n:Int)] u (pt NX NY)):=hid (fun u=>by
        have h:=HP.o j (by omega) (by omega) u;rw[eNX,eNY]at h;exact h)
      clear eNX eNY;obtain⟨m0,m1,mf⟩:=b4.cells;obtain⟨g0,g1,gf⟩:=c4.cells;go_wp2_with fail;refine(HA.o _).mono ?_;rintro e w5 ⟨rfl,h5⟩;have A5:=sA w5 (.cells #[.int .i64 NX,.int .i64 NY] 57);have a5:=(a4.sT h5).sT A5;have b5:=(b4.sT h5).sT A5;have c5:=(c4.sT h5).sT A5;have d5:=(d4.sT h5).sT A5;have v5:=(v4.sT h5).sT A5;have y5:=Ys w5 NX NY;have HS5:=hid ((HS4.o.trans h5).trans A5);clear a4 b4 c4 d4 v4 HS4 h5 A5 HA m0 m1 mf g0 g1 gf;obtain⟨o0,o1,of⟩:=y5.cells;go_wp2_with fail;refine(G7 NX NY bX.1 bX.2 bY.1 bY.2 _).mono ?_;rintro e w6 ⟨rfl,h6⟩;have a6:=a5.sT h6;have b6:=b5.sT h6;have c6:=c5.sT h6;have d6:=d5.sT h6;have v6:=v5.sT h6;have y6:=y5.sT h6;have HS6:=hid (HS5.o.trans h6);clear a5 b5 c5 d5 v5 y5 HS5 h6 o0 o1 of bX bY;obtain⟨i0,i1,i2,jf⟩:=a6.cells;go_wp2_with fail;cases hsol:Yg C R s (dn NX) (dn NY)with
      | true =>
        have HK:=hid (show j-1=k by
          rw[<- HE.o.2];refine(XF (by omega) (fun i h1 h2=>HF.o i h1 (by omega)) (fun _=>?_)).symm;rw[show j-1+1=j by omega];unfold ZE;rw[HR.o.1,HR.o.2];exact hsol)
        refine(Xq C R (dn NX) (dn NY) s hz hsol _).mono ?_;rintro e w7 ⟨rfl,h7⟩;have v7:=v6.sT h7;have d7:=d6.sT h7;have HS7:=hid (HS6.o.trans h7);clear hsol a6 b6 c6 d6 v6 y6 HS6 h7 i0 i1 i2 jf;obtain⟨i0,i1,jf⟩:=v7.cells;obtain⟨o0,o1,of⟩:=d7.cells;go_wp2_with fail
        (try simp only[Exit.inBlock,Exit.then])
        exact bodyPost_ret ((d7.set _ _).rest rfl _ _ rfl rfl) rfl ⟨by rw[HK.o,decide_eq_true (show k<n by have:=HK.o;omega)];rfl,Y3 HS7.o _ _ _ (.inr HB.o.2.2)⟩
      | false =>
        have HV:=hid (show ZE (Yg C R s) X Y P Q n j=false by
          unfold ZE;rw[HR.o.1,HR.o.2];exact hsol)
        refine(Xq C R (dn NX) (dn NY) s hz hsol _).mono ?_;rintro e w7 ⟨rfl,h7⟩;have l1:w.heap.size≠w3.heap.size:=by have:=NL.o;omega
        have l2:w.heap.size+1≠w3.heap.size:=by have:=NL.o;omega
        have l3:w.heap.size+1+1≠w3.heap.size:=by have:=NL.o;omega
        have l4:w.heap.size+1+1+1≠w3.heap.size:=by have:=NL.o;omega
        have a7:=ZL (a6.sT h7) l1 NX NY;have b7:=Yv (b6.sT h7) l2 NX NY;have c7:=Yv (c6.sT h7) l3 NX NY;have d7:=Yv (d6.sT h7) l4 NX NY;have v7:=(v6.sT h7).set NX NY;have HS7:=hid (Y3 (Yc.trans HS6.o h7) w3.heap.size NX NY (.inr (by have:=NL.o;omega)));obtain⟨q2,q3,qf⟩:=(v6.sT h7).cells;obtain⟨s2,s3,sf⟩:=(y6.sT h7).cells;clear hsol a6 b6 c6 d6 v6 y6 HS6 h7 i0 i1 i2 jf l1 l2 l3 l4;go_wp2_with fail;go_roundw;case rel => exact⟨j + 1, by omega, by omega, by go_num, fun i h1 h2 => by
            by_cases e:i=j
            · subst e;exact HV.o
            · exact HF.o i h1 (by omega),a7,b7,c7,d7,by
              rw[Nat.add_sub_cancel,HR.o.1,HR.o.2];exact v7,HS7.o⟩
        case measure=>simp[intOf];omega
    · have HK:=hid (show j-1 = k by
        rw[<- HE.o.2];exact(XF (by omega) (fun i h1 h2=>HF.o i h1 (by omega)) (fun h=>by omega)).symm)
      obtain⟨i0,i1,jf⟩:=v4.cells;obtain⟨o0,o1,of⟩:=d4.cells;go_wp2_with fail
      (try simp only[Exit.inBlock,Exit.then])
      exact bodyPost_ret ((d4.set _ _).rest rfl _ _ rfl rfl) rfl ⟨by rw[HK.o,decide_eq_false (show ¬k<n by have:=HK.o;omega)];rfl,Y3 HS4.o _ _ _ (.inr HB.o.2.2)⟩
def XX(s:ByteArray)(c:Int):Nat->Nat->Int
 | 0,_=>-1
 | f+1,i=>if byt s i=c then(i:Int)else XX s c f (i+1)
def fnd(s:ByteArray)(c:Int)(i:Nat):Int:=XX s c (s.size-i) i
theorem II{s:ByteArray}{c:Int}{i:Nat}(h:s.size<=i):fnd s c i=-1:=by
 unfold fnd;rw[show s.size-i=0 by omega];rfl
theorem IJ{s:ByteArray}{c:Int}{i:Nat}(h:i<s.size)(hc:byt s i=c):fnd s c i=(i:Int):=by
 unfold fnd;rw[show s.size-i=(s.size-(i+1))+1 by omega,XX,if_pos hc]
theorem IK{s:ByteArray}{c:Int}{i:Nat}(h:i<s.size)(hc:¬byt s i=c):fnd s c i=fnd s c (i+1):=by
 unfold fnd;rw[show s.size-i=(s.size-(i+1))+1 by omega,XX,if_neg hc]
theorem BC(s:ByteArray)(c:Int):∀(f i:Nat),i+f=s.size->(XX s c f i=-1/\∀j,i<=j->j<s.size->byt s j≠c) \/ ∃k:Nat,XX s c f i=(k:Int)/\i<=k/\k<s.size/\byt s k=c/\∀j,i<=j->j<k->byt s j≠c
 | 0,i,h=>.inl ⟨rfl,fun j h1 h2=>by omega⟩
 | f+1,i,h=>by
  rw[XX];by_cases hc:byt s i=c
  ·rw[if_pos hc];exact .inr ⟨i,rfl,Nat.le_refl _,by omega,hc,fun j h1 h2=>by omega⟩
  ·rw[if_neg hc];rcases BC s c f (i+1) (by omega)with⟨e,h1⟩|⟨k,e,h1,h2,h3,h4⟩
   ·refine .inl ⟨e,fun j j1 j2=>?_⟩;by_cases ej:j=i
    ·subst ej;exact hc
    ·exact h1 j (by omega) j2
   ·refine .inr ⟨k,e,by omega,h2,h3,fun j j1 j2=>?_⟩;by_cases ej:j=i
    ·subst ej;exact hc
    ·exact h4 j (by omega) j2
theorem UH(s:ByteArray)(c:Int)(i:Nat)(h:i<=s.size):(fnd s c i=-1/\∀j,i<=j->j<s.size->byt s j≠c) \/ ∃k:Nat,fnd s c i=(k:Int)/\i<=k/\k<s.size/\byt s k=c/\∀j,i<=j->j<k->byt s j≠c:=
 BC s c (s.size-i) i (by omega)
theorem KD(s:ByteArray)(c:Int)(i:Nat)(hz:s.size<=281474976710656)(hi:i<=s.size)(w:World) :
  Yb 83 #[.string s,.int .u8 c,.int .i64 (i:Int)] w (.int .i64 (fnd s c i)):=by
 obtain⟨T,eT⟩:∃T,T=fnd s c i:=⟨_,rfl⟩;have HT:=hid eT;rw[<- eT];clear eT;go_enter Tryz.func83,Tryz.ntmps83;go_wp2
 go_loop [7] (fun v=>∃j:Nat,j<=s.size/\v=.int .i64 (j:Int)/\T=fnd s c j) (fun v=>s.size-(intOf v).toNat);case atStart=>exact⟨i,hi,rfl,HT.o⟩
 case round =>
  obtain⟨j,hj,rfl,hf⟩:=hrel;by_cases hlt:j<s.size
  ·have e:=ZJ s j hlt;obtain⟨b,eb⟩:∃b,byt s j=b:=⟨_,rfl⟩;rw[eb]at e;by_cases hc:b=c
   ·have HF:=hid (show(j:Int)=T by rw[hf,IJ hlt (eb.trans hc)]);clear hf eb;subst hc;go_wp2
    go_ret;exact⟨Ze HF.o,rfl⟩
   ·have HF:=hid (show T=fnd s c (j+1) by rw[hf,IK hlt (by rw[eb];exact hc)]);have hc':(b == c)=false:=by simpa using hc
    clear hf eb;go_wp2
    go_round
    case rel=>exact⟨j+1,by omega,by go_num,HF.o⟩
    case measure=>simp[intOf];omega
  ·have HF:=hid (show(-1:Int)=T by rw[hf,II (by omega)]);clear hf;go_wp2
   go_ret;exact⟨Ze HF.o,rfl⟩
def okC(c:Int):Bool:=c == 35 || c == 46 || c == 42 || (decide (49<=c) && decide (c<=54))
def ZN(s:ByteArray):Nat->Bool
 | 0=>true
 | n+1=>ZN s n && okC (byt s n)
theorem BD{s:ByteArray}:∀{n m:Nat},n<=m->ZN s n=false->ZN s m=false
  | n,0,h,k=>by obtain rfl:n=0:=(by omega);exact k
  | n,m+1,h,k=>by
    by_cases e:n=m+1
    · subst e;exact k
    · rw[ZN,BD (n:=n) (m:=m) (by omega) k];rfl
theorem sgns_iff{s:ByteArray}:∀{n:Nat},ZN s n=true ↔ ∀i,i<n->okC (byt s i)=true
 | 0=>⟨fun _ i h=>by omega,fun _=>rfl⟩
 | n+1=>by
  rw[ZN,Bool.and_eq_true,sgns_iff];constructor
  ·rintro⟨h1,h2⟩ i hi;by_cases e:i=n
   ·subst e;exact h2
   ·exact h1 i (by omega)
  ·intro h;exact⟨fun i hi=>h i (by omega),h n (by omega)⟩
theorem IL(b:Int):(okC b=true/\(b=35\/b=46\/b=42\/((b != 35)=true/\(b != 46)=true/\(b != 42)=true/\decide (b<49)=false/\decide (54<b)=false))) \/
  (okC b=false/\(b != 35)=true/\(b != 46)=true/\(b != 42)=true/\(decide (b<49)=true\/(decide (b<49)=false/\decide (54<b)=true))):=by
 unfold okC;by_cases h1:b=35
 ·subst h1;exact .inl ⟨by decide,.inl rfl⟩
 by_cases h2:b=46
 ·subst h2;exact .inl ⟨by decide,.inr (.inl rfl)⟩
 by_cases h3:b=42
 ·subst h3;exact .inl ⟨by decide,.inr (.inr (.inl rfl))⟩
 have n1:(b != 35)=true:=by simpa using h1
 have n2:(b != 46)=true:=by simpa using h2
 have n3:(b != 42)=true:=by simpa using h3
 by_cases h4:b<49
 ·exact .inr ⟨by simp[h1,h2,h3];omega,n1,n2,n3,.inl (by simpa using h4)⟩
 by_cases h5:54<b
 ·exact .inr ⟨by simp[h1,h2,h3];omega,n1,n2,n3,.inr ⟨by simpa using h4,by simpa using h5⟩⟩
 ·exact .inl ⟨by simp;omega,.inr (.inr (.inr ⟨n1,n2,n3,by simpa using h4,by simpa using h5⟩))⟩
def ZO(s:ByteArray):Nat->Nat->Nat
 | 0,n=>n
 | f+1,n=>if 0<=fnd s (49+(n:Int)) 0 then ZO s f (n+1)else n
def mny(s:ByteArray):Nat:=ZO s 6 0
theorem GA(C R:Int)(s:ByteArray)(hz:s.size<=281474976710656)(w:World):Ya 81 #[ar C R s] w (.int .i64 (mny s:Nat)):=by
 obtain⟨T,eT⟩:∃T,T=mny s:=⟨_,rfl⟩;have HT:=hid (show T=ZO s 6 0 from eT);rw[<- eT];clear eT;have p:=YA w C R s;obtain⟨c0,c1,c2,cf⟩:=p.cells;simp only[Yi]at c0 c1 c2 cf;go_enter Tryz.func81,Tryz.ntmps81;go_wp2_with fail;go_loop [3] (fun v=>∃n:Nat,n<=6/\v=.int .i64 (n:Int)/\T=ZO s (6-n) n) (fun v=>6-(intOf v).toNat);case atStart=>exact⟨0,by omega,rfl,HT.o⟩
 case round =>
  obtain⟨n,hn,rfl,hf⟩:=hrel;by_cases hlt:n<6
  ·rw[show 6-n=(6-(n+1))+1 by omega,ZO]at hf;have hd:=UH s (49+(n:Int)) 0 (by omega);obtain⟨F,eF⟩:∃F,fnd s (49+(n:Int)) 0=F:=⟨_,rfl⟩;have HC:Hid (∀u:World,Yb 83 #[.string s,.int .u8 (49+(n:Int)),.int .i64 0] u (.int .i64 F)):=hid (fun u=>by
    have h:=KD s (49+(n:Int)) 0 hz (by omega) u;rw[eF]at h;exact h)
   rw[eF]at hf;have wr8:IntKind.u8.wrap (49+(n:Int))=49+(n:Int):=by rw[IntKind.wrap_u8];omega
   clear hd eF;by_cases hF:0<=F
   ·rw[if_pos hF]at hf;have HF:=hid hf;clear hf;go_wp2_with (go_at_call 83;refine(HC.o _).mono ?_;rintro e w' ⟨he,hw⟩;rw[he,hw];clear he hw w');go_round
    case rel=>exact⟨n+1,by omega,by go_num,HF.o⟩
    case measure=>simp[intOf];omega
   ·rw[if_neg hF]at hf;have HF:=hid (show((n:Nat):Int)=(T:Nat) by rw[hf]);have hF':decide (0<=F)=false:=decide_eq_false hF;clear hf;go_wp2_with (go_at_call 83;refine(HC.o _).mono ?_;rintro e w' ⟨he,hw⟩;rw[he,hw];clear he hw w');go_ret;exact⟨Ze HF.o,sA w _⟩
  ·obtain rfl:n=6:=by omega
   have HF:=hid (show((6:Nat):Int)=(T:Nat) by rw[hf];rfl);clear hf;go_wp2_with fail;go_ret;exact⟨Ze HF.o,sA w _⟩
def XY(C R:Int)(i:Nat):Bool:=decide ((i:Int) % C=0) || decide ((i:Int) / C=0) || decide ((i:Int) % C=C-1) || decide ((i:Int) / C=R-1)
def Xr(C R:Int)(s:ByteArray)(i:Nat):Bool:=byt s i == 35 || (!XY C R i && okC (byt s i))
def Zs(C R:Int)(s:ByteArray):Nat->Bool
 | 0=>true
 | n+1=>Zs C R s n && Xr C R s n
def Zk(s:ByteArray):Nat->Nat
 | 0=>0
 | n+1=>Zk s n+if byt s n=42 then 1 else 0
def Xi(C R:Int)(s:ByteArray):Bool:=decide (3<=C/\C<=32/\3<=R/\R<=24/\(s.size:Int)=C*R)
def YL(C R:Int)(s:ByteArray):Bool:=Xi C R s && (Zs C R s s.size && decide (Zk s s.size<=16))
theorem GB{C R:Int}{s:ByteArray}:∀{n m:Nat},n<=m->Zs C R s n=false->Zs C R s m=false
  | n,0,h,k=>by obtain rfl:n=0:=(by omega);exact k
  | n,m+1,h,k=>by
    by_cases e:n=m+1
    · subst e;exact k
    · rw[Zs,GB (n:=n) (m:=m) (by omega) k];rfl
theorem GC(s:ByteArray):∀n,Zk s n<=n
 | 0=>Nat.le_refl _
 | n+1=>by
  have:=GC s n;rw[Zk];split<;>omega
theorem IM(C R:Int)(s:ByteArray)(h:Xi C R s=false)(w:World):Ya 138 #[ar C R s] w (.bool false):=by
  unfold Xi at h;have h':=of_decide_eq_false h;have hw : (decide (C < 3) = true) \/ (decide (C < 3) = false /\ decide (32 < C) = true) \/ (decide (C < 3) = false /\ decide (32 < C) = false /\ decide (R < 3) = true) \/ (decide (C < 3) = false /\ decide (32 < C) = false /\ decide (R < 3) = false /\ decide (24 < R) = true) \/
      (decide (C<3)=false/\decide (32<C)=false/\decide (R<3)=false/\decide (24<R)=false/\((s.size:Int) != C*R)=true):=by
    by_cases x1:C<3
    · exact .inl (by simpa using x1)
    by_cases x2:32<C
    · exact .inr (.inl ⟨by simpa using x1,by simpa using x2⟩)
    by_cases x3:R<3
    · exact .inr (.inr (.inl ⟨by simpa using x1,by simpa using x2,by simpa using x3⟩))
    by_cases x4:24<R
    · exact .inr (.inr (.inr (.inl ⟨by simpa using x1,by simpa using x2,by simpa using x3,by simpa using x4⟩)))
    · refine .inr (.inr (.inr (.inr ⟨by simpa using x1,by simpa using x2,by simpa using x3,by simpa using x4,?_⟩)))
      have:¬(s.size:Int)=C*R:=fun e=>h' ⟨by omega,by omega,by omega,by omega,e⟩;simpa using this
  have hm:(3<=C/\C<=32/\3<=R/\R<=24)->0<=C*R/\C*R<=768:=by
    rintro⟨a,b,c,d⟩;have h1:0<=C*R:=Int.mul_nonneg (by omega) (by omega);have h2:C*R<=32*24:=Int.mul_le_mul b d (by omega) (by omega);omega
  clear h h';rcases hw with x1|⟨x1,x2⟩|⟨x1,x2,x3⟩|⟨x1,x2,x3,x4⟩|⟨x1,x2,x3,x4,x5⟩;case inr.inr.inr.inr =>
    obtain⟨m0,m1⟩:=hm ⟨by simpa using x1,by simpa using x2,by simpa using x3,by simpa using x4⟩;clear hm;go_enter Tryz.func138,Tryz.ntmps138;go_wp2_with fail;go_ret;exact⟨rfl,sA w _⟩
  all_goals
    clear hm;go_enter Tryz.func138,Tryz.ntmps138;go_wp2_with fail;go_ret;exact⟨rfl,sA w _⟩
theorem IP(C R q m:Int):((decide (m=0) || decide (q=0) || decide (m=C-1) || decide (q=R-1))=true/\((m == 0)=true\/((m == 0)=false/\(q == 0)=true)\/((m == 0)=false/\(q == 0)=false/\(m == C-1)=true)\/((m == 0)=false/\(q == 0)=false/\(m == C-1)=false/\(q == R-1)=true))) \/
  ((decide (m=0) || decide (q=0) || decide (m=C-1) || decide (q=R-1))=false/\(m == 0)=false/\(q == 0)=false/\(m == C-1)=false/\(q == R-1)=false):=by
 by_cases h1:m=0
 ·exact .inl ⟨by simp[h1],.inl (by simpa using h1)⟩
 by_cases h2:q=0
 ·exact .inl ⟨by simp[h2],.inr (.inl ⟨by simpa using h1,by simpa using h2⟩)⟩
 by_cases h3:m=C-1
 ·exact .inl ⟨by simp[h3],.inr (.inr (.inl ⟨by simpa using h1,by simpa using h2,by simpa using h3⟩))⟩
 by_cases h4:q=R-1
 ·exact .inl ⟨by simp[h4],.inr (.inr (.inr ⟨by simpa using h1,by simpa using h2,by simpa using h3,by simpa using h4⟩))⟩
 ·exact .inr ⟨by simp[h1,h2,h3,h4],by simpa using h1,by simpa using h2,by simpa using h3,by simpa using h4⟩
theorem IQ(C R:Int)(s:ByteArray)(h:Xi C R s=true)(w:World):Ya 138 #[ar C R s] w (.bool (Zs C R s s.size && decide (Zk s s.size<=16))):=by
 unfold Xi at h;obtain⟨h1,h2,h3,h4,h5⟩:=of_decide_eq_true h;have m0:0<=C*R:=Int.mul_nonneg (by omega) (by omega);have m1:C*R<=768:=by
  have:C*R<=32*24:=Int.mul_le_mul h2 h4 (by omega) (by omega);omega
 have hz:s.size<=768:=by omega
 have h5':((s.size:Int) != C*R)=false:=by simpa using h5
 obtain⟨T,eT⟩:∃T,T=(Zs C R s s.size && decide (Zk s s.size<=16)):=⟨_,rfl⟩;have HT:=hid eT;have H5:=hid h5;rw[<- eT];clear eT h h5;have p:=YA w C R s;obtain⟨c0,c1,c2,cf⟩:=p.cells;simp only[Yi]at c0 c1 c2 cf;go_enter Tryz.func138,Tryz.ntmps138;go_wp2_with fail;go_loop [3,4] (fun v u=>∃i:Nat,i<=s.size/\u=.int .i64 (i:Int)/\v=.int .i64 (Zk s i:Nat)/\Zs C R s i=true) (fun _ u=>s.size-(intOf u).toNat);case atStart=>exact⟨0,by omega,rfl,rfl,rfl⟩
 case round =>
  obtain⟨i,hi,rfl,rfl,hg⟩:=hrel;have sl:=GC s i;obtain⟨S,eS⟩:∃S,Zk s i=S:=⟨_,rfl⟩;rw[eS]at sl⊢;have HS:=hid eS;clear eS;by_cases hlt:i<s.size
  ·have e:=ZJ s i hlt;obtain⟨b,eb⟩:∃b,byt s i=b:=⟨_,rfl⟩;rw[eb]at e;have HB:=hid eb;clear eb;obtain⟨m,em⟩:∃m,(i:Int) % C=m:=⟨_,rfl⟩;obtain⟨q,eq⟩:∃q,(i:Int) / C=q:=⟨_,rfl⟩;have b1:0<=m/\m<C:=by rw[<- em];exact⟨Int.emod_nonneg _ (by omega),Int.emod_lt_of_pos _ (by omega)⟩
   have b2:0<=q/\q<=(i:Int):=by rw[<- eq];exact⟨Int.ediv_nonneg (by omega) (by omega),Int.ediv_le_self _ (by omega)⟩
   obtain⟨b10,b11⟩:=b1;obtain⟨b20,b21⟩:=b2;have et:(i:Int).tmod C=m:=by rw[Int.tmod_eq_emod_of_nonneg (by omega),em]
   have ed:(i:Int).tdiv C=q:=by rw[Int.tdiv_eq_ediv_of_nonneg (by omega),eq]
   have HE:=hid (show XY C R i=(decide (m=0) || decide (q=0) || decide (m=C-1) || decide (q=R-1)) by unfold XY;rw[em,eq]);have HG:=hid hg;clear hg;rcases IP C R q m with⟨hE,hw⟩|⟨hE,x1,x2,x3,x4⟩
   ·have HE':=hid (HE.o.trans hE);clear hE HE;by_cases h35:b=35
    ·have HN:=hid (show Zs C R s (i+1)=true/\Zk s (i+1)=S by
      rw[Zs,Zk,HG.o,Xr,HB.o,h35,HS.o];exact⟨rfl,rfl⟩)
     subst h35;clear HB HG HE' HS;rcases hw with x1|⟨x1,x2⟩|⟨x1,x2,x3⟩|⟨x1,x2,x3,x4⟩;all_goals
      go_wp2_with fail;go_round
      case rel=>exact⟨i+1,by omega,by go_num,by rw[HN.o.2],HN.o.1⟩
      case measure=>simp[intOf];omega
    ·have n35:(b != 35)=true:=by simpa using h35
     have HF:=hid (show false=T by
      rw[HT.o,GB (n:=i+1) (m:=s.size) (by omega) (by
       rw[Zs,HG.o,Xr,HB.o,HE'.o,show(b == 35)=false by simpa using h35];rfl)]
      rfl)
     clear HB HG HE' HS h35;rcases hw with x1|⟨x1,x2⟩|⟨x1,x2,x3⟩|⟨x1,x2,x3,x4⟩;all_goals
      go_wp2_with fail;go_ret;exact⟨ZK HF.o,sA w _⟩
   ·have HE':=hid (HE.o.trans hE);clear hE HE;rcases IL b with⟨hok,hw⟩|⟨hok,n1,n2,n3,hw⟩
    ·have HN:=hid (show Zs C R s (i+1)=true by
      rw[Zs,HG.o,Xr,HB.o,HE'.o,hok];simp)
     have HP:=hid (show Zk s (i+1)=S+if b=42 then 1 else 0 by rw[Zk,HB.o,HS.o]);clear HB HG HE' HS hok;rcases hw with rfl|rfl|rfl|⟨n1,n2,n3,n4,n5⟩;case inr.inr.inl =>
      go_wp2_with fail;go_round
      case rel=>exact⟨i+1,by omega,by go_num,by rw[HP.o];simp,HN.o⟩
      case measure=>simp[intOf];omega
     case inr.inr.inr =>
      have n6:(b == 42)=false:=by simpa using n3
      go_wp2_with fail;go_round
      case rel=>exact⟨i+1,by omega,by go_num,by rw[HP.o,if_neg (by simpa using n3)];rfl,HN.o⟩
      case measure=>simp[intOf];omega
     all_goals
      go_wp2_with fail;go_round
      case rel=>exact⟨i+1,by omega,by go_num,by rw[HP.o];rfl,HN.o⟩
      case measure=>simp[intOf];omega
    ·have HF:=hid (show false=T by
      rw[HT.o,GB (n:=i+1) (m:=s.size) (by omega) (by
       rw[Zs,HG.o,Xr,HB.o,HE'.o,hok,show(b == 35)=false by simpa using n1];rfl)]
      rfl)
     clear HB HG HE' HS hok;rcases hw with n4|⟨n4,n5⟩;all_goals
      go_wp2_with fail;go_ret;exact⟨ZK HF.o,sA w _⟩
  ·have HF:=hid (show decide (S<=16)=T by
    rw[HT.o,show s.size=i by omega,hg,HS.o];rfl)
   clear hg HS;go_wp2_with fail;go_ret;exact⟨ZK ((show decide ((S:Int)<=16)=decide (S<=16)from decide_eq_decide.2 (by omega)).trans HF.o),sA w _⟩
theorem IR(C R:Int)(s:ByteArray)(w:World):Ya 138 #[ar C R s] w (.bool (YL C R s)):=by
 unfold YL;cases h:Xi C R s with
 | false=>exact IM C R s h w
 | true =>
  rw[Bool.true_and];exact IQ C R s h w
def rowB(I:Nat->Bool)(n:Nat):Array Value:=((List.range n).map fun i=>Value.bool (I i)).toArray
theorem KE(I:Nat->Bool){n i:Nat}(h:i<n):(rowB I n)[i]?=some (.bool (I i)):=by simp[rowB,h]
theorem KF(I:Nat->Bool)(n:Nat):(rowB I n).size=n:=by simp[rowB]
def upd(I:Nat->Bool)(k:Nat):Nat->Bool:=fun j=>if j=k then true else I j
theorem J7(I:Nat->Bool){n k:Nat}(_h:k<n):(rowB I n).setIfInBounds k (.bool true)=rowB (upd I k) n:=by
 apply Array.ext_getElem?;intro i;by_cases hi:i<n
 ·rw[KE _ hi];by_cases e:k=i
  ·subst e;rw[Array.getElem?_setIfInBounds_self,KF,if_pos hi];simp[upd]
  ·rw[Array.getElem?_setIfInBounds_ne e,KE _ hi];simp[upd,show ¬i=k from fun h=>e h.symm]
 ·rw[Array.getElem?_eq_none (by rw[Array.size_setIfInBounds,KF];omega),Array.getElem?_eq_none (by rw[KF];omega)]
def Rb(w:World)(g n:Nat)(I:Nat->Bool):Prop:=w.heap[g]?=some (.cells (rowB I n) 4 (0,0))
theorem Rb.sT{w w':World}{g n:Nat}{I:Nat->Bool}(h:Rb w g n I)(hs:Yc w w'):Rb w' g n I:=hs.kept_still h
theorem Rb.cell{w:World}{g n i:Nat}{I:Nat->Bool}(h:Rb w g n I)(hi:i<n):w.cell? ⟨g,i,none⟩=some (.bool (I i)):=by
 rw[cell_of_row _ _ _ _ _ _ h,KE _ hi]
theorem Rb.frozen{w:World}{g n:Nat}{I:Nat->Bool}(h:Rb w g n I)(o:Nat):w.frozen? ⟨g,o,none⟩=false:=frozen_of_row w g o _ _ h
theorem Rb.set{w:World}{g n k:Nat}{I:Nat->Bool}(h:Rb w g n I)(hk:k<n):Rb (w.setCell ⟨g,k,none⟩ (.bool true)) g n (upd I k):=by
 unfold Rb;rw[heap_setCell_same w g k _ _ (.bool true) h,J7 I hk]
def YQ(I:Nat->Bool):Nat->Nat
 | 0=>0
 | n+1=>YQ I n+if I n then 0 else 1
theorem VW{I J:Nat->Bool}:∀{n:Nat},(∀i,i<n->I i=J i)->YQ I n=YQ J n
 | 0,_=>rfl
 | n+1,h=>by rw[YQ,YQ,VW (n:=n) (fun i hi=>h i (by omega)),h n (by omega)]
theorem XG{I:Nat->Bool}{k:Nat}(hk:I k=false):∀{n:Nat},k<n->YQ (upd I k) n+1=YQ I n
 | 0,h=>by omega
 | n+1,h=>by
  rw[YQ,YQ];by_cases e:k=n
  ·subst e;rw[VW (n:=k) (J:=I) (fun i hi=>by simp[upd,show ¬i=k by omega]),hk];simp[upd]
  ·have:=XG hk (n:=n) (by omega);simp only[upd,show ¬n=k from fun h=>e h.symm,if_false];omega
def J9(w:World)(g:Nat):Nat->Nat
 | 0=>0
 | n+1=>J9 w g n+match w.cell? ⟨g,n,none⟩with
  | some (.bool true)=>0
  | _=>1
theorem JA{w:World}{g n:Nat}{I:Nat->Bool}(h:Rb w g n I):∀{m:Nat},m<=n->J9 w g m=YQ I m
 | 0,_=>rfl
 | m+1,hm=>by
  rw[J9,YQ,JA h (by omega),h.cell (by omega)];cases I m<;>rfl
def nbB(C:Nat)(I:Nat->Bool)(i:Nat):Bool:=I (i-1) || (I (i+1) || (I (i-C) || I (i+C)))
def Shut(C N:Nat)(s:ByteArray)(I:Nat->Bool):Prop:=∀i,C<=i->i+C<N->byt s i≠35->nbB C I i=true->I i=true
def Rch(C N:Nat)(s:ByteArray)(f i:Nat):Prop:=∀I:Nat->Bool,I f=true->Shut C N s I->I i=true
theorem KG(C N:Nat)(s:ByteArray)(f:Nat):Rch C N s f f:=fun _ h _=>h
theorem UI{C N:Nat}{s:ByteArray}{f i:Nat}{I:Nat->Bool}(hI:∀j,I j=true->Rch C N s f j)(h1:C<=i)(h2:i+C<N)(h3:byt s i≠35)(h4:nbB C I i=true):Rch C N s f i:=by
 intro J hf hJ;refine hJ i h1 h2 h3 ?_;unfold nbB at h4⊢;simp only[Bool.or_eq_true]at h4⊢;rcases h4 with h|h|h|h
 ·exact .inl (hI _ h J hf hJ)
 ·exact .inr (.inl (hI _ h J hf hJ))
 ·exact .inr (.inr (.inl (hI _ h J hf hJ)))
 ·exact .inr (.inr (.inr (hI _ h J hf hJ)))
def IsR(C N:Nat)(s:ByteArray)(f:Nat)(I:Nat->Bool):Prop:=I f=true/\Shut C N s I/\∀i,I i=true->Rch C N s f i
theorem IU{C N:Nat}{s:ByteArray}{f:Nat}{I J:Nat->Bool}(h:IsR C N s f I)(k:IsR C N s f J)(i:Nat):I i=J i:=by
 cases e:I i with
 | true=>exact(h.2.2 i e J k.1 k.2.1).symm
 | false =>
  cases e2:J i with
  | false=>rfl
  | true =>
   rw[k.2.2 i e2 I h.1 h.2.1]at e;cases e
theorem IV(n:Nat):madeCells #[Value.bool false] (n*1)=rowB (fun _=>false) n:=by
 apply Array.ext_getElem?;intro i;by_cases h:i<n
 ·rw[KE _ h];simp[madeCells,h,Nat.mod_one]
 ·rw[Array.getElem?_eq_none (by rw[size_madeCells];omega),Array.getElem?_eq_none (by rw[KF];omega)]
theorem BE(w:World)(n:Nat)(h:n<=281474976710656):(Instr.makeSlice 184 (.int .i64 (n:Int)) (.int .i64 (n:Int))).run Tryz.prog w=.ok (.slice (some ⟨w.heap.size,0,none⟩) n n) (w.alloc (.cells (rowB (fun _=>false) n) 4)):=by
 obtain⟨i,hi,hz,h1,h2⟩:∃i,Tryz.prog.info? 4=some i/\i.zero=some (.bool false)/\i.size=1/\i.bytes=1:=⟨_,rfl,rfl,rfl,rfl⟩;have hr:=run_make (P:=Tryz.prog) w 184 4 i (.bool false) Tryz.underlying184 hi hz .i64 .i64 (n:Int) (n:Int) (by omega) (by omega) (by rw[h2];omega) (by omega);rw[h1]at hr;simp only[Int.toNat_natCast]at hr;rw[hr,<- IV];rfl
def GD(v:Value):Nat:=match v with
 | .bool true=>1
 | _=>0
theorem IW(C:Nat)(R:Int)(s:ByteArray)(f:Nat)(hC:1<=C)(hC2:C<=32)(hz:s.size<=768)(hf:f<s.size)(w:World) :
    Calls Tryz.prog 139 #[ar (C:Int) R s,.int .i64 (f:Int)] w fun e w'=>∃g I,e=.returned (.slice (some ⟨g,0,none⟩) s.size s.size)/\IsR C s.size s f I/\Rb w' g s.size I/\Yc w w':=by
  have hmk:=fun u=>BE u s.size (by omega);have p:=(YA w C R s).sT (sA (Yi w C R s) (.cells (rowB (fun _=>false) s.size) 4));have q:Rb ((Yi w C R s).alloc (.cells (rowB (fun _=>false) s.size) 4)) (w.heap.size+1) s.size (fun _=>false):=by
    have:=heap_alloc_new (Yi w C R s) (.cells (rowB (fun _=>false) s.size) 4);rw[size_alloc]at this;exact this
  have HS0:=hid ((sA w (.cells #[.int .i64 (C:Int),.int .i64 R,.string s] 24)).trans (sA (Yi w C R s) (.cells (rowB (fun _=>false) s.size) 4)));obtain⟨c0,c1,c2,cf⟩:=(YA w C R s).cells;have c3:=q.cell hf;have c4:=q.frozen f;simp only[Yi]at c0 c1 c2 cf c3 c4 p q HS0;have hfi:(f:Int)<(s.size:Int):=by omega
  go_in
  go_wp21
  have p2:Ab ((w.alloc (.cells #[.int .i64 (C:Int),.int .i64 R,.string s] 24)).alloc (.cells ((rowB (fun _=>false) s.size).setIfInBounds f (.bool true)) 4)) w.heap.size C R s:=
    (YA w C R s).sT (sA _ _)
  have q2:Rb ((w.alloc (.cells #[.int .i64 (C:Int),.int .i64 R,.string s] 24)).alloc (.cells ((rowB (fun _=>false) s.size).setIfInBounds f (.bool true)) 4)) (w.heap.size+1) s.size (upd (fun _=>false) f):=by
    have:=heap_alloc_new (Yi w C R s) (.cells ((rowB (fun _=>false) s.size).setIfInBounds f (.bool true)) 4);rw[size_alloc,J7 _ hf]at this;rw[J7 _ hf];exact this
  have HS2:=hid ((sA w (.cells #[.int .i64 (C:Int),.int .i64 R,.string s] 24)).trans (sA (Yi w C R s) (.cells ((rowB (fun _=>false) s.size).setIfInBounds f (.bool true)) 4)));go_loopw [6] (fun v wr=>∃(I:Nat->Bool) (b:Bool),v=.bool b/\Ab wr w.heap.size C R s/\Rb wr (w.heap.size+1) s.size I/\(I f=true/\∀i,I i=true->Rch C s.size s f i)/\(b=false->Shut C s.size s I)/\Yc w wr) (fun v wr=>2*J9 wr (w.heap.size+1) s.size+GD v);case atStart => exact⟨upd (fun _ => false) f, true, rfl, p2, q2, ⟨by simp[upd], fun i hi => by
      by_cases e:i=f
      · subst e;exact KG C s.size s i
      · simp[upd,e]at hi⟩,fun h=>(by cases h),HS2.o⟩
  case round =>
    obtain⟨I,b,rfl,a3,r3,hI,hb,hs⟩:=hrel;have HS3:=hid hs;clear hs p2 q2 HS2;cases b with
    | false =>
      have HR:=hid (show IsR C s.size s f I from⟨hI.1,hb rfl,hI.2⟩);clear hb hI;go_wp21
      go_ret;exact⟨_,I,rfl,HR.o,r3,HS3.o⟩
    | true =>
      have HI:=hid hI;have HM:=hid (JA r3 (Nat.le_refl _));clear hI hb;have c0c:=a3.cells;go_wp21
      clear c0 c1 c2 cf;go_loopw [6, 7] (fun v u wr => ∃(i : Nat) (J : Nat -> Bool) (b : Bool), C <= i /\ i <= s.size + C /\ u = .int .i64 (i : Int) /\ v = .bool b /\ Ab wr w.heap.size C R s /\ Rb wr (w.heap.size + 1) s.size J /\ (J f = true /\ ∀j, J j = true -> Rch C s.size s f j) /\
          (b=false->(∀j,J j=I j)/\∀j,C<=j->j<i->byt s j≠35->nbB C J j=true->J j=true)/\(b=true->YQ J s.size<YQ I s.size)/\Yc w wr) (fun _ u _=>s.size+C-(intOf u).toNat)
      case atStart=>exact⟨C,I,false,by omega,by omega,rfl,rfl,a3,r3,HI.o,fun _=>⟨fun _=>rfl,fun j h1 h2=>by omega⟩,fun h=>(by cases h),HS3.o⟩
      case round =>
        obtain⟨i,J,b,i1,i3,rfl,rfl,a4,r4,hJ0,hb,hc,hs⟩:=hrel;have HJ:=hid hJ0;have HB:=hid hb;have HC:=hid hc;have HS4:=hid hs;clear hJ0 hb hc hs;have c0c:=a4.cells;by_cases i2:i+C<s.size
        · have e:=ZJ s i (by omega)
          obtain⟨y,ey⟩:∃y,byt s i=y:=⟨_,rfl⟩;rw[ey]at e;have k0:=r4.cell (i:=i) (by omega);have k1:=r4.cell (i:=i-1) (by omega);have k2:=r4.cell (i:=i+1) (by omega);have k3:=r4.cell (i:=i-C) (by omega);have k4:=r4.cell (i:=i+C) (by omega);have z1:(i:Int)-1=((i-1:Nat):Int):=by omega
          have z3:(i:Int)-(C:Int)=((i-C:Nat):Int):=by omega
          have i2':((i+C:Nat):Int)<(s.size:Int):=by omega
          have i5:(i:Int)<(s.size:Int):=by omega
          cases hJ:J i with
          | true =>
            rw[hJ]at k0;have HK:=hid (show byt s i≠35->nbB C J i=true->J i=true from fun _ _=>hJ);clear hJ ey;go_wp21
            go_roundw;case rel => exact⟨i + 1, J, b, by omega, by omega, by go_num, rfl, a4, r4, HJ.o, fun h => ⟨(HB.o h).1, fun j h1 h2 => by
                by_cases e:j=i
                · subst e;exact HK.o
                · exact(HB.o h).2 j h1 (by omega)⟩,HC.o,HS4.o⟩
            case measure=>simp[intOf];omega
          | false =>
            rw[hJ]at k0;by_cases h35:y=35
            · have n35:(y != 35)=false:=by simpa using h35
              have HK:=hid (show byt s i≠35->nbB C J i=true->J i=true from fun h=>absurd (ey.trans h35) h);clear hJ ey h35;go_wp21
              go_roundw;case rel => exact⟨i + 1, J, b, by omega, by omega, by go_num, rfl, a4, r4, HJ.o, fun h => ⟨(HB.o h).1, fun j h1 h2 => by
                  by_cases e:j=i
                  · subst e;exact HK.o
                  · exact(HB.o h).2 j h1 (by omega)⟩,HC.o,HS4.o⟩
              case measure=>simp[intOf];omega
            · have n35:(y != 35)=true:=by simpa using h35
              have h35:=fun h=>h35 (ey.symm.trans h);clear ey;cases h1:J (i-1)with
              | true =>
                rw[h1]at k1;have HN:=hid (show nbB C J i=true by unfold nbB;rw[h1];rfl);have HV:=hid (show YQ (upd J i) s.size<YQ I s.size by
                  have h1:=XG (k:=i) hJ (n:=s.size) (by omega);cases hb:b with
                  | true=>have:=HC.o hb;omega
                  | false =>
                    have:=VW (n:=s.size) (fun j _=>(HB.o hb).1 j);omega)
                have HR:=hid (show ∀j,upd J i j=true->Rch C s.size s f j from fun j hj=>by
                  by_cases e:j=i
                  · subst e;exact UI HJ.o.2 i1 i2 h35 HN.o
                  · exact HJ.o.2 j (by simpa[upd,e]using hj))
                have HF:=hid (show upd J i f=true by
                  unfold upd;split
                  · rfl
                  · exact HJ.o.1)
                have fz:=r4.frozen i;have r5:=r4.set (k:=i) (by omega);have a5:Ab (wr.setCell ⟨w.heap.size+1,i,none⟩ (.bool true)) w.heap.size C R s:=by
                  unfold Ab;rw[heap_setCell_other _ _ _ _ (show w.heap.size≠w.heap.size+1 by omega)];exact a4
                have HS5:=hid (Fr.setCell HS4.o ⟨w.heap.size+1,i,none⟩ (.bool true) (.inr (show w.heap.size<=w.heap.size+1 by omega)));clear h35;go_wp21
                go_roundw;case rel=>exact⟨i+1,upd J i,true,by omega,by omega,by go_num,rfl,a5,r5,⟨HF.o,HR.o⟩,fun h=>(by cases h),fun _=>HV.o,HS5.o⟩
                case measure=>simp[intOf];omega
              | false =>
                rw[h1]at k1;cases h2:J (i+1)with
                | true =>
                  rw[h2]at k2;have HN:=hid (show nbB C J i=true by unfold nbB;rw[h1,h2];rfl);have HV:=hid (show YQ (upd J i) s.size<YQ I s.size by
                    have h1:=XG (k:=i) hJ (n:=s.size) (by omega);cases hb:b with
                    | true=>have:=HC.o hb;omega
                    | false =>
                      have:=VW (n:=s.size) (fun j _=>(HB.o hb).1 j);omega)
                  have HR:=hid (show ∀j,upd J i j=true->Rch C s.size s f j from fun j hj=>by
                    by_cases e:j=i
                    · subst e;exact UI HJ.o.2 i1 i2 h35 HN.o
                    · exact HJ.o.2 j (by simpa[upd,e]using hj))
                  have HF:=hid (show upd J i f=true by
                    unfold upd;split
                    · rfl
                    · exact HJ.o.1)
                  have fz:=r4.frozen i;have r5:=r4.set (k:=i) (by omega);have a5:Ab (wr.setCell ⟨w.heap.size+1,i,none⟩ (.bool true)) w.heap.size C R s:=by
                    unfold Ab;rw[heap_setCell_other _ _ _ _ (show w.heap.size≠w.heap.size+1 by omega)];exact a4
                  have HS5:=hid (Fr.setCell HS4.o ⟨w.heap.size+1,i,none⟩ (.bool true) (.inr (show w.heap.size<=w.heap.size+1 by omega)));clear h35;go_wp21
                  go_roundw;case rel=>exact⟨i+1,upd J i,true,by omega,by omega,by go_num,rfl,a5,r5,⟨HF.o,HR.o⟩,fun h=>(by cases h),fun _=>HV.o,HS5.o⟩
                  case measure=>simp[intOf];omega
                | false =>
                  rw[h2]at k2;cases h3:J (i-C)with
                  | true =>
                    rw[h3]at k3;have HN:=hid (show nbB C J i=true by unfold nbB;rw[h1,h2,h3];rfl);have HV:=hid (show YQ (upd J i) s.size<YQ I s.size by
                      have h1:=XG (k:=i) hJ (n:=s.size) (by omega);cases hb:b with
                      | true=>have:=HC.o hb;omega
                      | false =>
                        have:=VW (n:=s.size) (fun j _=>(HB.o hb).1 j);omega)
                    have HR:=hid (show ∀j,upd J i j=true->Rch C s.size s f j from fun j hj=>by
                      by_cases e:j=i
                      · subst e;exact UI HJ.o.2 i1 i2 h35 HN.o
                      · exact HJ.o.2 j (by simpa[upd,e]using hj))
                    have HF:=hid (show upd J i f=true by
                      unfold upd;split
                      · rfl
                      · exact HJ.o.1)
                    have fz:=r4.frozen i;have r5:=r4.set (k:=i) (by omega);have a5:Ab (wr.setCell ⟨w.heap.size+1,i,none⟩ (.bool true)) w.heap.size C R s:=by
                      unfold Ab;rw[heap_setCell_other _ _ _ _ (show w.heap.size≠w.heap.size+1 by omega)];exact a4
                    have HS5:=hid (Fr.setCell HS4.o ⟨w.heap.size+1,i,none⟩ (.bool true) (.inr (show w.heap.size<=w.heap.size+1 by omega)));clear h35;go_wp21
                    go_roundw;case rel=>exact⟨i+1,upd J i,true,by omega,by omega,by go_num,rfl,a5,r5,⟨HF.o,HR.o⟩,fun h=>(by cases h),fun _=>HV.o,HS5.o⟩
                    case measure=>simp[intOf];omega
                  | false =>
                    rw[h3]at k3;cases h4:J (i+C)with
                    | true =>
                      rw[h4]at k4;have HN:=hid (show nbB C J i=true by unfold nbB;rw[h1,h2,h3,h4];rfl);have HV:=hid (show YQ (upd J i) s.size<YQ I s.size by
                        have h1:=XG (k:=i) hJ (n:=s.size) (by omega);cases hb:b with
                        | true=>have:=HC.o hb;omega
                        | false =>
                          have:=VW (n:=s.size) (fun j _=>(HB.o hb).1 j);omega)
                      have HR:=hid (show ∀j,upd J i j=true->Rch C s.size s f j from fun j hj=>by
                        by_cases e:j=i
                        · subst e;exact UI HJ.o.2 i1 i2 h35 HN.o
                        · exact HJ.o.2 j (by simpa[upd,e]using hj))
                      have HF:=hid (show upd J i f=true by
                        unfold upd;split
                        · rfl
                        · exact HJ.o.1)
                      have fz:=r4.frozen i;have r5:=r4.set (k:=i) (by omega);have a5:Ab (wr.setCell ⟨w.heap.size+1,i,none⟩ (.bool true)) w.heap.size C R s:=by
                        unfold Ab;rw[heap_setCell_other _ _ _ _ (show w.heap.size≠w.heap.size+1 by omega)];exact a4
                      have HS5:=hid (Fr.setCell HS4.o ⟨w.heap.size+1,i,none⟩ (.bool true) (.inr (show w.heap.size<=w.heap.size+1 by omega)));clear h35;go_wp21
                      go_roundw;case rel=>exact⟨i+1,upd J i,true,by omega,by omega,by go_num,rfl,a5,r5,⟨HF.o,HR.o⟩,fun h=>(by cases h),fun _=>HV.o,HS5.o⟩
                      case measure=>simp[intOf];omega
                    | false =>
                      rw[h4]at k4;have HK:=hid (show byt s i≠35->nbB C J i=true->J i=true from fun _ h=>by unfold nbB at h;rw[h1,h2,h3,h4]at h;cases h);clear hJ h1 h2 h3 h4 h35;go_wp21
                      go_roundw;case rel => exact⟨i + 1, J, b, by omega, by omega, by go_num, rfl, a4, r4, HJ.o, fun h => ⟨(HB.o h).1, fun j h1 h2 => by
                          by_cases e:j=i
                          · subst e;exact HK.o
                          · exact(HB.o h).2 j h1 (by omega)⟩,HC.o,HS4.o⟩
                      case measure=>simp[intOf];omega
        · have HE:=hid (show(b=false->Shut C s.size s J)from fun h=>fun j h1 h2 h3 h4=>(HB.o h).2 j h1 (by omega) h3 h4)
          go_wp21
          go_roundw;case rel=>exact⟨J,b,rfl,a4,r4,HJ.o,HE.o,HS4.o⟩
          case measure =>
            have h1:=HM.o;have h2:=JA r4 (Nat.le_refl _);rw[h2,h1];cases b with
            | true=>have:=HC.o rfl;simp[GD];omega
            | false =>
              have:=VW (n:=s.size) (fun j _=>(HB.o rfl).1 j);simp[GD];omega
def okS(n:Nat)(I:Nat->Bool)(s:ByteArray)(i:Nat):Bool:=byt s i == 35 || (byt s i == 46 || (I i && (byt s i == 42 || (decide (byt s i-48<=(n:Int)) && decide (fnd s (byt s i) (i+1)<0)))))
def Zf(n:Nat)(I:Nat->Bool)(s:ByteArray):Nat->Bool
 | 0=>true
 | k+1=>Zf n I s k && okS n I s k
theorem BF{n:Nat}{I:Nat->Bool}{s:ByteArray}:∀{k m:Nat},k<=m->Zf n I s k=false->Zf n I s m=false
  | k,0,h,e=>by obtain rfl:k=0:=(by omega);exact e
  | k,m+1,h,e=>by
    by_cases x:k=m+1
    · subst x;exact e
    · rw[Zf,BF (k:=k) (m:=m) (by omega) e];rfl
theorem BG{n:Nat}{I J:Nat->Bool}{s:ByteArray}(h:∀i,I i=J i):∀k,Zf n I s k=Zf n J s k
 | 0=>rfl
 | k+1=>by rw[Zf,Zf,BG h k];unfold okS;rw[h k]
def Zg(C R:Int)(s:ByteArray)(v:Int):Prop:=
 (YL C R s=false/\v=61)\/(YL C R s=true/\mny s<2/\v=62) \/
 (YL C R s=true/\2<=mny s/\∃(f:Nat) (I:Nat->Bool),fnd s 49 0=(f:Int)/\IsR C.toNat s.size s f I/\v=if Zf (mny s) I s s.size then 0 else 62)
theorem VX{C R:Int}{s:ByteArray}{v u:Int}(h:Zg C R s v)(k:Zg C R s u):v=u:=by
 rcases h with⟨h1,rfl⟩|⟨h1,h2,rfl⟩|⟨h1,h2,f,I,h3,h4,rfl⟩<;>rcases k with⟨k1,rfl⟩|⟨k1,k2,rfl⟩|⟨k1,k2,g,J,k3,k4,rfl⟩
 ·rfl
 ·rw[h1]at k1;cases k1
 ·rw[h1]at k1;cases k1
 ·rw[h1]at k1;cases k1
 ·rfl
 ·omega
 ·rw[h1]at k1;cases k1
 ·omega
 ·have e:f=g:=by omega
  subst e;rw[BG (IU h4 k4)]
theorem GE(s:ByteArray):∀f n,ZO s f n<=n+f
 | 0,n=>by simp[ZO]
 | f+1,n=>by
  rw[ZO];split
  ·have:=GE s f (n+1);omega
  ·omega
theorem BH{s:ByteArray}(h:1<=mny s):∃f:Nat,fnd s 49 0=(f:Int)/\f<s.size:=by
 unfold mny at h;rw[ZO]at h;by_cases k:0<=fnd s (49+((0:Nat):Int)) 0
 ·rcases UH s 49 0 (by omega)with⟨e,_⟩|⟨f,e,_,h2,_⟩
  ·rw[show(49:Int)+((0:Nat):Int)=49 by omega,e]at k;omega
  ·exact⟨f,e,h2⟩
 ·rw[if_neg k]at h;omega
theorem KH{C R:Int}{s:ByteArray}:∀{n:Nat},Zs C R s n=true->∀i,i<n->Xr C R s i=true
 | 0,_,i,hi=>by omega
 | n+1,h,i,hi=>by
  rw[Zs,Bool.and_eq_true]at h;by_cases e:i=n
  ·subst e;exact h.2
  ·exact KH h.1 i (by omega)
theorem BI{C R:Int}{s:ByteArray}(h:YL C R s=true){i:Nat}(hi:i<s.size):byt s i=35\/byt s i=46\/byt s i=42\/(49<=byt s i/\byt s i<=54):=by
 unfold YL at h;simp only[Bool.and_eq_true]at h;have:=KH h.2.1 i hi;unfold Xr okC at this;simp only[Bool.or_eq_true,Bool.and_eq_true,beq_iff_eq,decide_eq_true_eq]at this;omega
theorem Xs{C R:Int}{s:ByteArray}(h:YL C R s=true):3<=C/\C<=32/\3<=R/\R<=24/\(s.size:Int)=C*R/\s.size<=768:=by
 unfold YL Xi at h;simp only[Bool.and_eq_true]at h;obtain⟨h1,h2,h3,h4,h5⟩:=of_decide_eq_true h.1;have:C*R<=32*24:=Int.mul_le_mul h2 h4 (by omega) (by omega);exact⟨h1,h2,h3,h4,h5,by omega⟩
theorem GF(C R:Int)(s:ByteArray){t:Bool}(h:YL C R s=t)(w:World):Ya 138 #[ar C R s] w (.bool t):=by
 have:=IR C R s w;rw[h]at this;exact this
theorem IX(C R:Int)(s:ByteArray)(h:YL C R s=false)(w:World):Ya 80 #[ar C R s] w (.int .i64 61):=by
 go_enter Tryz.func80,Tryz.ntmps80;go_wp2_with fail;refine(GF C R s h _).mono ?_;rintro e w1 ⟨rfl,h1⟩;go_wp2_with fail;go_ret;exact⟨rfl,(sA w _).trans h1⟩
theorem IY(C R:Int)(s:ByteArray)(hz:s.size<=281474976710656)(h:YL C R s=true)(hm:mny s<2)(w:World):Ya 80 #[ar C R s] w (.int .i64 62):=by
 have p:=YA w C R s;have H:=hid h;clear h;go_enter Tryz.func80,Tryz.ntmps80;go_wp2_with fail;refine(GF C R s H.o _).mono ?_;rintro e w1 ⟨rfl,h1⟩;obtain⟨c0,c1,c2,cf⟩:=(p.sT h1).cells;have HS1:=hid ((sA w (.cells #[.int .i64 C,.int .i64 R,.string s] 24)).trans h1);clear p h1;go_wp2_with fail;refine(GA C R s hz _).mono ?_;rintro e w2 ⟨rfl,h2⟩;have HS2:=hid (HS1.o.trans h2);clear HS1 h2 c0 c1 c2 cf;go_wp2_with fail;go_ret;exact⟨rfl,HS2.o⟩
theorem IZ(C:Nat)(R:Int)(s:ByteArray)(h:YL (C:Int) R s=true)(hm:2<=mny s)(f:Nat)(hf:fnd s 49 0=(f:Int))(hfs:f<s.size)(w:World) :
  Calls Tryz.prog 80 #[ar (C:Int) R s] w fun e w'=>∃I,IsR C s.size s f I/\e=.returned (.int .i64 (if Zf (mny s) I s s.size then 0 else 62))/\Yc w w':=by
 obtain⟨q1,q2,q3,q4,q5,q6⟩:=Xs h;have HG:=hid (fun i (hi:i<s.size)=>BI h hi);have p:=YA w C R s;have H:=hid h;obtain⟨n,en⟩:∃n,mny s=n:=⟨_,rfl⟩;have nl:n<=6:=by rw[<- en];exact GE s 6 0
 have HN:=hid en;rw[en]at hm⊢;have HM:Hid (∀u:World,Ya 81 #[ar (C:Int) R s] u (.int .i64 (n:Int))):=hid (fun u=>by
  have:=GA C R s (by omega) u;rw[en]at this;exact this)
 have HQ:Hid (∀u:World,Yb 83 #[.string s,.int .u8 49,.int .i64 0] u (.int .i64 (f:Int))):=hid (fun u=>by
  have:=KD s 49 0 (by omega) (by omega) u;rw[hf]at this;exact this)
 clear h en hf;go_enter Tryz.func80,Tryz.ntmps80;go_wp2_with fail;refine(GF C R s H.o _).mono ?_;rintro e w1 ⟨rfl,h1⟩;have p1:=p.sT h1;have HS1:=hid ((sA w (.cells #[.int .i64 (C:Int),.int .i64 R,.string s] 24)).trans h1);clear p h1;obtain⟨c0,c1,c2,cf⟩:=p1.cells;go_wp2_with fail;refine(HM.o _).mono ?_;rintro e w2 ⟨rfl,h2⟩;have p2:=p1.sT h2;have HS2:=hid (HS1.o.trans h2);clear p1 HS1 h2 c0 c1 c2 cf HM;have c0:=kC p2.cells.1;have c1:=kC p2.cells.2.1;have c2:=kC p2.cells.2.2.1;have hne:=Aft.here w2;go_wp2_with fail;refine Yp 4 (by kernel_rfl) (by kernel_rfl) ?_;simp only[tkd];repeat(go_big_quiet_step ((go_at_call 83;exact Calls.cl_same (HQ.o _))))
 refine wpQuiet_nil ?_;intro w3 h3;have p3:=p2.sT h3;have HS3:=hid (HS2.o.trans h3);clear p2 HS2 h3 c0 c1 c2 hne HQ;go_wp2_with fail;refine(IW C R s f (by omega) (by omega) q6 hfs _).mono ?_;rintro e w4 ⟨g,I,rfl,hI,r4,h4⟩;have p4:=p3.sT h4;have HS4:=hid (HS3.o.trans h4);have HI:=hid hI;clear p3 HS3 h4 hI;obtain⟨c0,c1,c2,cf⟩:=p4.cells;go_wp2_with fail;go_loop [6] (fun v=>∃i:Nat,i<=s.size/\v=.int .i64 (i:Int)/\Zf n I s i=true) (fun v=>s.size-(intOf v).toNat);case atStart=>exact⟨0,by omega,rfl,rfl⟩
 case round =>
  obtain⟨i,hi,rfl,ha⟩:=hrel;by_cases hlt:i<s.size
  ·have e:=ZJ s i hlt;have k0:=r4.cell hlt;have hg:=HG.o i hlt;have hok:Zf n I s (i+1)=okS n I s i:=by rw[Zf,ha];rfl
   have HX:Hid (okS n I s i=false->(62:Int)=if Zf n I s s.size then 0 else 62):=hid (fun h=>by
    rw[BF (k:=i+1) (m:=s.size) (by omega) (hok.trans h)];rfl)
   obtain⟨F,eF⟩:∃F,fnd s (byt s i) (i+1)=F:=⟨_,rfl⟩;have HC:Hid (∀u:World,Yb 83 #[.string s,.int .u8 (byt s i),.int .i64 ((i:Int)+1)] u (.int .i64 F)):=hid (fun u=>by
    have h:=KD s (byt s i) (i+1) (by omega) (by omega) u;rw[eF,show((i+1:Nat):Int)=(i:Int)+1 by omega]at h;exact h)
   have HD:Hid (okS n I s i=(byt s i == 35 || (byt s i == 46 || (I i && (byt s i == 42 || (decide (byt s i-48<=(n:Int)) && decide (F<0))))))):=hid (by unfold okS;rw[eF]);obtain⟨b,eb⟩:∃b,byt s i=b:=⟨_,rfl⟩;rw[eb]at e hg HC HD;have HO:=hid hok;clear hok ha eF eb;rcases hg with rfl|rfl|hg
   ·have HF:=hid (show Zf n I s (i+1)=true by rw[HO.o,HD.o];rfl);clear k0 HC HD HO HX;go_wp2_with fail;go_round
    case rel=>exact⟨i+1,by omega,by go_num,HF.o⟩
    case measure=>simp[intOf];omega
   ·have HF:=hid (show Zf n I s (i+1)=true by rw[HO.o,HD.o];rfl);clear k0 HC HD HO HX;go_wp2_with fail;go_round
    case rel=>exact⟨i+1,by omega,by go_num,HF.o⟩
    case measure=>simp[intOf];omega
   ·cases hI:I i with
    | false =>
     rw[hI]at k0;have HF:=hid (HX.o (by rw[HD.o,hI];rcases hg with rfl|⟨g1,g2⟩<;>simp<;>omega));have n35:(b == 35)=false:=by simp;omega
     have n46:(b == 46)=false:=by simp;omega
     clear hI HC HD HO HX hg;go_wp2_with fail;go_ret;exact⟨I,HI.o,Ze HF.o,HS4.o⟩
    | true =>
     rw[hI]at k0;rcases hg with rfl|⟨g1,g2⟩
     ·have HF:=hid (show Zf n I s (i+1)=true by rw[HO.o,HD.o,hI];rfl);clear hI HC HD HO HX;go_wp2_with fail;go_round
      case rel=>exact⟨i+1,by omega,by go_num,HF.o⟩
      case measure=>simp[intOf];omega
     ·have n35:(b == 35)=false:=by simp;omega
      have n46:(b == 46)=false:=by simp;omega
      have n42:(b != 42)=true:=by simp;omega
      have wr8:IntKind.u8.wrap (b-48)=b-48:=by rw[IntKind.wrap_u8];omega
      by_cases hn:b-48<=(n:Int)
      ·have hn':decide ((n:Int)<b-48)=false:=decide_eq_false (by omega);by_cases hF:F<0
       ·have HF:=hid (show Zf n I s (i+1)=true by rw[HO.o,HD.o,hI];simp[hn,hF]);have hF':decide (0<=F)=false:=decide_eq_false (by omega);clear hI HD HO HX;go_wp2_with (go_at_call 83;refine(HC.o _).mono ?_;rintro e w' ⟨he,hw⟩;rw[he,hw];clear he hw w');go_round
        case rel=>exact⟨i+1,by omega,by go_num,HF.o⟩
        case measure=>simp[intOf];omega
       ·have HF:=hid (HX.o (by rw[HD.o,hI];simp[hF];omega));have hF':0<=F:=by omega
        clear hI HD HO HX;go_wp2_with (go_at_call 83;refine(HC.o _).mono ?_;rintro e w' ⟨he,hw⟩;rw[he,hw];clear he hw w');go_ret;exact⟨I,HI.o,Ze HF.o,HS4.o⟩
      ·have HF:=hid (HX.o (by rw[HD.o,hI];simp[hn];omega));have hn':(n:Int)<b-48:=by omega
       clear hI HC HD HO HX;go_wp2_with fail;go_ret;exact⟨I,HI.o,Ze HF.o,HS4.o⟩
  ·have HF:=hid (show(0:Int)=if Zf n I s s.size then 0 else 62 by
    rw[show s.size=i by omega,ha];rfl)
   clear ha;go_wp2_with fail;go_ret;exact⟨I,HI.o,Ze HF.o,HS4.o⟩
theorem GG(C R:Int)(s:ByteArray)(hz:s.size<=281474976710656)(w:World) :
  Calls Tryz.prog 80 #[ar C R s] w fun e w'=>∃v,e=.returned (.int .i64 v)/\Zg C R s v/\Yc w w':=by
 cases h:YL C R s with
 | false =>
  refine(IX C R s h w).mono ?_;rintro e w1 ⟨rfl,h1⟩;exact⟨61,rfl,.inl ⟨h,rfl⟩,h1⟩
 | true =>
  by_cases hm:mny s<2
  ·refine(IY C R s hz h hm w).mono ?_;rintro e w1 ⟨rfl,h1⟩;exact⟨62,rfl,.inr (.inl ⟨h,hm,rfl⟩),h1⟩
  ·obtain⟨f,hf,hfs⟩:=BH (s:=s) (by omega);have q:=(Xs h).1;have hc:C=(C.toNat:Int):=by omega
   have k:=IZ C.toNat R s (by rw[<- hc];exact h) (by omega) f hf hfs w;rw[<- hc]at k;refine k.mono ?_;rintro e w1 ⟨I,hI,rfl,h1⟩;exact⟨_,rfl,.inr (.inr ⟨h,by omega,f,I,hf,hI,rfl⟩),h1⟩
theorem Oa(w:World)(g:Nat)(C R:Int)(s:ByteArray)(c0:w.cell? ⟨g,0,none⟩=some (.int .i64 C))(c1:w.cell? ⟨g,1,none⟩=some (.int .i64 R))(c2:w.cell? ⟨g,2,none⟩=some (.string s)) :
  (loadVar 24 ⟨g,0,none⟩).run Tryz.prog w=.ok (ar C R s) w:=by
 go_simp
theorem Ab.rest{fn:Func}{p q:Tmp}{w:World}{g:Nat}{C R:Int}{s:ByteArray}(hb:Ab w g C R s)(h:fn.results=#[.cell p 24,.tmp q])(tmps:Array Value)(t:Value)(hp:tmps.getD p undef=.pointer (some ⟨g,0,none⟩))(hq:tmps.getD q undef=t) :
  (results fn tmps).run Tryz.prog w=.ok (.tuple #[ar C R s,t]) w:=by
 rw[results_cell_tmp h,hp,hq];simp[asAddr,Result.andThen,Oa w g C R s hb.cells.1 hb.cells.2.1 hb.cells.2.2.1]
def std3:ByteArray:=⟨#[35,35,35,35,35,35,35,35,35,49,46,46,46,46,50,35,35,46,46,42,42,46,46,35,35,46,46,46,46,46,46,35,35,51,46,46,46,46,52,35,35,35,35,35,35,35,35,35]⟩
theorem Ob(w:World):Ya 48 #[.int .i64 3] w (.tuple #[ar 8 6 std3,.int .i64 0]):=by
 have p:=YA w 8 6 std3;go_enter Tryz.func48,Tryz.ntmps48;go_wp2_with fail;exact bodyPost_ret (p.rest rfl _ _ rfl rfl) rfl ⟨rfl,sA w _⟩
theorem KI{C R:Int}{s:ByteArray}(h:Zg C R s 0):YL C R s=true:=by
 rcases h with⟨_,e⟩|⟨_,_,e⟩|⟨h,_⟩
 ·cases e
 ·cases e
 ·exact h
end
section
open Go.RowKit
theorem Oc{l:List Oper}{id:Nat}{Q:Exit->Act->World->Prop}{a:Act}{w:World}{on:Oper}(n d:Nat)(zs:Array Value)(t:TypeId)
  (hon:l[n]?=some on) (hdn:on.dst=some d) (hgn:on.guard=none) (hnew:∀(w:World) (a:Act),(execOp a.eval on).run Tryz.prog w=.ok (.value (.pointer (some ⟨w.heap.size,0,none⟩))) (w.alloc (.cells zs t)))
  (h:∃A,(∀u,Yc w u->wpQuiet Tryz.prog l.toArray (fun w'=>∃z:Aft u,w'=z.u) (fun a'=>a'=A) (l.take n) a) /\
   ∀J n' K k,wpList Tryz.prog l.toArray Q (l.drop (n+1)) (A.put (some d) (.pointer (some ⟨w.heap.size+J.size,0,none⟩))) (more ((more w J n').alloc (.cells zs t)) K k))
  (hm:Tryz.prog.follows .mixedOrders=true:=by kernel_rfl) (hB:newB? l n d=true:=by kernel_rfl) (hg:U9 (l.take n)=true:=by kernel_rfl) (hd:XD (l.take n) a.tmps.size=true:=by kernel_rfl) (hdd:decide (d<a.tmps.size)=true:=by kernel_rfl) :
  (Code.region id l.toArray true).wp Tryz.prog Q a w:=by
 obtain⟨A,h1,h2⟩:=h;have hB':=hB;simp only[newB?,Bool.and_eq_true]at hB';have hsel:∀o∈l.toArray,∀cs b,o.op ≠ .select cs b:=fun o ho cs b=>by
  obtain⟨i,hi,e⟩:=Array.mem_iff_getElem.1 ho;exact Region.noSelect_spec hB'.1.1.1.1.1.2 i o cs b (by rw[Array.getElem?_eq_getElem hi,e])
 have k (u:World) (hu:Yc w u):=VQ hsel (l.take n) a (fun o ho=>by simpa using List.mem_of_mem_take ho) hg hd (h1 u hu);obtain⟨⟨i1,i2,i3⟩,-⟩:=k w (Fr.refl _ _);refine WF n d A _ hm hB hon hdn hgn (by rw[i1];simpa using hdd) i1.symm i2.symm (fun t ht _=>(i3 t fun o ho e=>?_).symm) (fun j o hj ho u hu t ht=>?_) (fun u _ b=>hnew u b) (fun u g hs hge hh=>?_)
 ·obtain⟨j,hj,e'⟩:=List.mem_iff_getElem.1 ho;have hjn:j<n:=by simp at hj;omega
  exact ht j o hjn (by rw[<- e'];simp) e
 ·exact(k u hu).2 o (List.mem_iff_getElem?.2 ⟨j,by rw[List.getElem?_take_of_lt hj];exact ho⟩) t ht
 ·obtain⟨J,n',K,k',rfl,rfl⟩:=WR hs hge hh;exact h2 J n' K k'
end
section
open Go.RowKit
open Pu Gp
attribute [local go_sem] zr Y0
theorem Od(a b c d a' b' c' d':Int)(w:World):Ya 290 #[bx a b c d,bx a' b' c' d'] w (.tuple #[mb a b c d a' b' c' d',.bool (mt a b c d a' b' c' d')]):=by
 have H1:=hid (K2 a b c d);have H2:=hid (K2 a' b' c' d');have H3:=hid (K2 (max a a') (max b b') (min c c') (min d d'));unfold mb mt Ya;unfold chk at H1 H2 H3;generalize okb a b c d=x at *
 generalize okb a' b' c' d'=y at *
 generalize okb (max a a') (max b b') (min c c') (min d d')=z at *
 rcases x<;>rcases y<;>rcases z
 all_goals
  go_in;go_wp2_with (go_at_call 318;first|(with_reducible refine zc (H1.o _) ?_;intro J n)|(with_reducible refine zc (H2.o _) ?_;intro J n))
  try (
   refine Oc 11 6 #[.int .i64 0,.int .i64 0,.int .i64 0,.int .i64 0] 172 rfl rfl rfl nwz ?_;apply Exists.intro;refine And.intro ?_ ?_
   ·intro u hu;obtain⟨J2,n2,rfl⟩:=hu.more;simp only[List.take_succ_cons,List.take_zero];repeat(go_big_quiet_step (first|(go_at_call 319;exact Calls.cl (WT _ _ _ _ _))|(go_at_call 320;exact Calls.cl (WU _ _ _ _ _))))
    exact wpQuiet_nil rfl
   intro J3 n3 K k;simp only[List.drop_succ_cons,List.drop_zero];go_wp2_with (go_at_call 318;refine zc (H3.o _) ?_;intro J n))
  refine bodyPost_ret (YF zbk rfl rfl) rfl ⟨?_,zst⟩;simp[mif]
theorem GH(a b c d a' b' c' d':Int)(w:World):Ya 233 #[bx a b c d,bx a' b' c' d'] w (.bool (mt a b c d a' b' c' d')):=by
 unfold Ya;go_in;go_wp2_with (go_at_call 290;refine zc (Od _ _ _ _ _ _ _ _ _) ?_;intro J n)
 go_ret;exact⟨rfl,zst⟩
theorem Oe(a b c d x y:Int)(w:World):Ya 242 #[bx a b c d,pt x y] w (.bool (mt a b c d x y x y)):=by
 unfold Ya;go_in;go_wp2_with (go_at_call 233;refine zc (GH _ _ _ _ _ _ _ _ _) ?_;intro J n)
 go_ret;exact⟨rfl,zst⟩
end
section
open Go.RowKit
open Pu Gp Ap
def Vz(t:ByteArray):ByteArray:=if fnd t 10 0<0 then t else t.extract 0 (fnd t 10 0).toNat
def Of(C R:Nat)(t:ByteArray):Bool:=
 decide (0<=fnd t 10 0) && (ZN (Vz t) (Vz t).size && ((if R=0 then decide (3<=(Vz t).size) && decide ((Vz t).size<=32)else decide ((Vz t).size=C)) && decide (R≠24)))
def prs:Nat->Nat->Nat->ByteArray->ByteArray->Sum Nat (Nat × Nat × ByteArray)
 | 0,_,R,_,_=>.inl (R+1)
 | f+1,C,R,S,t =>
  if R≠0/\t.size=0 then .inr (C,R,S)
  else if Of C R t then prs f (Vz t).size (R+1) (S ++ Vz t) (t.extract ((Vz t).size+1) t.size)
  else .inl (R+1)
end
end Go.Proofs.YtcgmohldcokccaaGreatDoor
