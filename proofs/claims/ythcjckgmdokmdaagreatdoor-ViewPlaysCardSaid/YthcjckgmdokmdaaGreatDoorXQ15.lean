import Derived.Test.YthcjckgmdokmdaaGreatDoorXQ10
import Derived.Deep.AppendLies
namespace Go.Proofs.YthcjckgmdokmdaaGreatDoor
open Go.RowKit
open Pu Gp Ap Vp Np Za Ka Ja Ea Ha
set_option maxRecDepth 100000
section
variable {α:Type} {e:TypeId}
end
theorem JT:∃ i,Tryz.prog.info? 122=some i/\i.zero=some (.agg (KS.f KS.d).toArray)/\i.size=KS.k/\i.bytes=64:=⟨_,rfl,rfl,rfl,rfl⟩
theorem Qw:∃ i,Tryz.prog.info? 124=some i/\i.zero=some (.agg (KQ.f KQ.d).toArray)/\i.size=KQ.k/\i.bytes=24:=⟨_,rfl,rfl,rfl,rfl⟩
end Go.Proofs.YthcjckgmdokmdaaGreatDoor
namespace Go.Proofs.YthcjckgmdokmdaaGreatDoor
open Go.RowKit
open Pu Gp Ap Vp Np Za Ka Ja Ea Ha Hg
set_option maxRecDepth 100000
theorem Wdb.ty {w:World} {g:Nat} {fr nx:Int} {a b c d:Value} (h:Wdb w g fr nx a b c d):Tyk w g 33:=⟨_,h⟩
theorem Wdb.other {w:World} {g k o:Nat} {fr nx:Int} {a b c d v:Value} (h:Wdb w g fr nx a b c d) (hk:g≠k):Wdb (w.setCell ⟨k,o,none⟩ v) g fr nx a b c d:=by
 unfold Wdb at h ⊢;rw [heap_setCell_other _ _ _ _ hk];exact h
theorem Wdb.s1 {w:World} {g:Nat} {fr nx:Int} {a b c d:Value} (h:Wdb w g fr nx a b c d) (v:Value):Wdb (w.setCell ⟨g,1,none⟩ v) g fr nx v b c d:=(heap_setCell_same w g 1 _ _ v h).trans (by kernel_rfl)
theorem Wdb.s2 {w:World} {g:Nat} {fr nx:Int} {a b c d:Value} (h:Wdb w g fr nx a b c d) (v:Value):Wdb (w.setCell ⟨g,2,none⟩ v) g fr nx a v c d:=(heap_setCell_same w g 2 _ _ v h).trans (by kernel_rfl)
theorem Wdb.s3 {w:World} {g:Nat} {fr nx:Int} {a b c d:Value} (h:Wdb w g fr nx a b c d) (v:Value):Wdb (w.setCell ⟨g,3,none⟩ v) g fr nx a b v d:=(heap_setCell_same w g 3 _ _ v h).trans (by kernel_rfl)
theorem Wdb.s4 {w:World} {g:Nat} {fr nx:Int} {a b c d:Value} (h:Wdb w g fr nx a b c d) (v:Value):Wdb (w.setCell ⟨g,4,none⟩ v) g fr nx a b c v:=(heap_setCell_same w g 4 _ _ v h).trans (by kernel_rfl)
theorem Wdb.put {w:World} {g:Nat} {fr nx:Int} {a b c d:Value} (h0:Wdb w g fr nx a b c d) (fr' nx':Int) (a' b' c' d':Value):Wdb ((((((w.setCell ⟨g,0,none⟩ (.int .i64 fr')).setCell ⟨g,1,none⟩ a').setCell ⟨g,2,none⟩ b').setCell ⟨g,3,none⟩ c').setCell ⟨g,4,none⟩ d').setCell ⟨g,5,none⟩ (.int .i64 nx')) g fr' nx' a' b' c' d':=by
 unfold Wdb at h0 ⊢;have h1:=heap_setCell_same _ g 0 _ _ (.int .i64 fr') h0;have h2:=heap_setCell_same _ g 1 _ _ a' h1;have h3:=heap_setCell_same _ g 2 _ _ b' h2;have h4:=heap_setCell_same _ g 3 _ _ c' h3;have h5:=heap_setCell_same _ g 4 _ _ d' h4;have h6:=heap_setCell_same _ g 5 _ _ (.int .i64 nx') h5;exact h6.trans (by kernel_rfl)
theorem Wdb.load {w:World} {g:Nat} {fr nx:Int} {ao bo co so:Option Addr} {n1 n2 n3 n4 c1 c2 c3 c4:Nat} (h:Wdb w g fr nx (.slice ao n1 c1) (.slice bo n2 c2) (.slice co n3 c3) (.slice so n4 c4)):(loadVar 33 ⟨g,0,none⟩).run Tryz.prog w=.ok (.agg (Yd fr nx (.slice ao n1 c1) (.slice bo n2 c2) (.slice co n3 c3) (.slice so n4 c4))) w:=by
 obtain ⟨c0,c1,c2,c3,c4,c5,cf⟩:=h.cells;go_simp
theorem Wdb.res1 {fn:Func} {p:Tmp} {w:World} {g:Nat} {fr nx:Int} {ao bo co so:Option Addr} {n1 n2 n3 n4 c1 c2 c3 c4:Nat} (hb:Wdb w g fr nx (.slice ao n1 c1) (.slice bo n2 c2) (.slice co n3 c3) (.slice so n4 c4)) (h:fn.results=#[.cell p 33]) (tmps:Array Value) (hp:tmps.getD p undef=.pointer (some ⟨g,0,none⟩)) :
  (results fn tmps).run Tryz.prog w=.ok (.agg (Yd fr nx (.slice ao n1 c1) (.slice bo n2 c2) (.slice co n3 c3) (.slice so n4 c4))) w:=by
 have hp':tmps[p]?.getD undef=.pointer (some ⟨g,0,none⟩):=by simpa using hp
 simp [results,h,hp',asAddr,hb.load]
def OwW (w:World) (B:Nat) (v:Value) (W:Wd):Prop:=∃ a b c d,v=.agg (Yd W.fr W.nx a b c d)/\OwG KM 56 w B a W.ms/\OwG KC 61 w B b W.cs/\OwG KS 122 w B c W.hs/\OwG KQ 124 w B d W.ks
theorem OwG.set6 {α:Type} {K:Kd α} {e t:TypeId} {w:World} {B g:Nat} {v:Value} {L:List α} (h:OwG K e w B v L) (hg:Tyk w g t) (ht:e≠t) (v0 v1 v2 v3 v4 v5:Value):OwG K e ((((((w.setCell ⟨g,0,none⟩ v0).setCell ⟨g,1,none⟩ v1).setCell ⟨g,2,none⟩ v2).setCell ⟨g,3,none⟩ v3).setCell ⟨g,4,none⟩ v4).setCell ⟨g,5,none⟩ v5) B v L :=
 (((((h.setO hg ht v0).setO (hg.set v0) ht v1).setO ((hg.set v0).set v1) ht v2).setO (((hg.set v0).set v1).set v2) ht v3).setO ((((hg.set v0).set v1).set v2).set v3) ht v4).setO (((((hg.set v0).set v1).set v2).set v3).set v4) ht v5
theorem Vx {x w:World} {g:Nat} (h:Yc x w) (hg:x.heap.size<=g) (v0 v1 v2 v3 v4 v5:Value):Yc x ((((((w.setCell ⟨g,0,none⟩ v0).setCell ⟨g,1,none⟩ v1).setCell ⟨g,2,none⟩ v2).setCell ⟨g,3,none⟩ v3).setCell ⟨g,4,none⟩ v4).setCell ⟨g,5,none⟩ v5) :=
 (((((Fr.setCell h _ v0 (.inr hg)).setCell _ v1 (.inr hg)).setCell _ v2 (.inr hg)).setCell _ v3 (.inr hg)).setCell _ v4 (.inr hg)).setCell _ v5 (.inr hg)
theorem AU {o:Oper} {ρ:Operand->Value} {x:Operand} {s:Sh} (ho:o.op=.buildSlice 30 1 #[(0,x)]) (hx:ρ x=sv s) (u:World):(execOp ρ o).run Tryz.prog u=.ok (.value (.slice (some ⟨u.heap.size,0,none⟩) 1 1)) (u.alloc (.cells (scs s) 122)):=by
 unfold execOp;rw [ho];simp only [List.map_toArray,List.map_cons,List.map_nil,hx];go_simp;try rfl
theorem AV {α β:Type} {R:α->β->World->Prop} {K:Act->World->Prop} {G:Prop} (h:∃ A:α->β->Act,((∀ x y u,R x y u->K (A x y) u)->G)/\∀ x y u,R x y u->K (A x y) u):G:=by
 obtain ⟨_,h1,h2⟩:=h;exact h1 h2
theorem VG {α:Type} {K:Kd α} {e:TypeId} {w:World} {B n cap:Nat} {ao:Option Addr} {L:List α} (h:OwG K e w B (.slice ao n cap) L) (hm:L.length<=281474976710656):RdG K w ao L.length L:=OwG.rd (M:=[]) (by simpa using h) hm
theorem AW {α:Type} {K:Kd α} {e:TypeId} {w:World} {B n cap:Nat} {ao:Option Addr} {L:List α} (h:OwG K e w B (.slice ao n cap) L):n=L.length/\L.length<=cap:=by
 rcases h.2 with ⟨h1,h2⟩ | ⟨g,c,cur,h1,_,_,h4,_⟩
 ·injection h1 with _ h5 h6; omega
 ·injection h1 with _ h5 h6; omega
theorem AX (g:Gm) (s:Sh) (t:Int):(Y5 g s t).w.ms.length=g.w.ms.length/\(Y5 g s t).w.cs.length=g.w.cs.length/\(Y5 g s t).ns.length<=g.ns.length+2:=by
 unfold Y5;dsimp only;split
 ·exact ⟨rfl,rfl,by omega⟩
 ·refine ⟨by simp,by simp, ?_⟩;split <;> simp
theorem JU (F:List Sh):∀ (l:List (Int × Int)) (g:Gm),(Zw F l g).w.ms.length=g.w.ms.length/\(Zw F l g).w.cs.length=g.w.cs.length/\(Zw F l g).ns.length<=g.ns.length+2*l.length
 | [],_=>⟨rfl,rfl,by simp [Zw]⟩
 | t :: l,g=>by
  have h1:=AX g (ss F t.1.toNat) t.2;have h2:=JU F l (Y5 g (ss F t.1.toNat) t.2);refine ⟨h2.1.trans h1.1,h2.2.1.trans h1.2.1, ?_⟩;have h3:(Zw F (t :: l) g).ns.length<=_:=h2.2.2;rw [List.length_cons];omega
theorem Wm {n:Nat}:∀ {l:List (Int × Int)} {k:Nat},l.Pairwise (fun a b=>a.1<b.1)->(∀ t∈l,(k:Int)<=t.1/\t.1<(n:Int))->l.length+k<=max n k
 | [],k,_,_=>by simp; omega
 | t :: l,k,h1,h2=>by
  have h3:=List.pairwise_cons.1 h1;have h4:=h2 t (List.mem_cons_self ..);have h5:=Wm (n:=n) (l:=l) (k:=k+1) h3.2 fun u hu=>⟨by have:=h3.1 u hu; push_cast; omega,(h2 u (List.mem_cons_of_mem _ hu)).2⟩;rw [List.length_cons];omega
theorem sho_len (L:List Mv) (S:List Sh):(sho L S).length<=S.length:=by
 have h:=Hg.sho_rise (L:=L) (S:=S);have:=Wm (n:=S.length) (k:=0) h.1 (fun t ht=>by simpa using h.2 t ht);omega
theorem AY {L:List Mv} {S:List Sh} {k:Nat} (h:k<(sho L S).length):∃ i j:Nat,pp (sho L S) k=((i:Int),(j:Int))/\i<S.length/\j<L.length:=by
 have hm:pp (sho L S) k∈sho L S:=by rw [Wc h]; exact List.getElem_mem h
 have h1:=(Hg.sho_rise (L:=L) (S:=S)).2 _ hm;have h2:=DA _ hm;have h3:=T7 _ hm;exact ⟨(pp (sho L S) k).1.toNat,(pp (sho L S) k).2.toNat,Prod.ext (by simp; omega) (by simp; omega),h2.1,h2.2⟩
theorem AZ (l:List Cm):∀ G:Gm,(Zv l G).ns.length<=G.ns.length+l.length:=by
 induction l with
 | nil=>intro G; simp [Zv]
 | cons y l ih =>
  intro G;have h1:=ih (Y9 G y);have h2:(Y9 G y).ns.length<=G.ns.length+1:=by
   unfold Y9;dsimp only;split
   ·simp
   ·split <;> simp
  have h3:(Zv (y :: l) G)=Zv l (Y9 G y):=rfl;rw [h3,List.length_cons];omega
theorem Ia (E:Env) (L:List Sh) {i:Nat} (h:i<L.length):Yy E (L.take (i+1))=Yy E (L.take i) ++ (if Ze E.sol (ss L i) then [Zp E.sol (ss L i)] else []):=by
 rw [Xq h];unfold Yy;rw [List.take_succ_eq_append_getElem h,List.filter_append,List.map_append];congr 1
 cases e:Ze E.sol L[i] <;> simp [e]
theorem Qx (E:Env) (L:List Sh):(Yy E L).length<=L.length:=by
 unfold Yy;rw [List.length_map];exact List.length_filter_le _ _
theorem take_len (Q:List Pk):∀ (l:List (Int × Int)) (g:Gm),(Zi Q l g).w.ms.length=g.w.ms.length/\(Zi Q l g).w.cs.length=g.w.cs.length/\(Zi Q l g).ns.length=g.ns.length+l.length
 | [],_=>⟨rfl,rfl,by simp [Zi]⟩
 | t :: l,g=>by
  have h:=take_len Q l (Y3 Q g t);refine ⟨h.1.trans (by simp [Y3]),h.2.1.trans (by simp [Y3]), ?_⟩;have h3:(Zi Q (t :: l) g).ns.length=_:=h.2.2;rw [h3,List.length_cons];simp [Y3];omega
theorem Ib {L:List Mv} {Q:List Pk} {T:List (Int × Int)} {k:Nat} (h:k<(pic L Q T).length):∃ i j:Nat,pp (pic L Q T) k=((i:Int),(j:Int))/\i<Q.length/\j<L.length:=by
 have hm:pp (pic L Q T) k∈pic L Q T:=by rw [Wc h]; exact List.getElem_mem h
 have h1:=(Hg.pic_rise (L:=L) (Q:=Q) (T:=T)).2 _ hm;have h2:=DB _ hm;have h3:=T8 _ hm;exact ⟨(pp (pic L Q T) k).1.toNat,(pp (pic L Q T) k).2.toNat,Prod.ext (by simp; omega) (by simp; omega),h2.1,h2.2⟩
theorem Ic {n:Nat} {E:Env} {g:Gm} (h:Ha.Good n E g.w):Ha.Good n E (Wa E g).w:=by
 obtain ⟨hS,r1,r2,r3,r4,r5,r6⟩:=h;obtain ⟨f1,f2⟩:=D7 (E:=E) r1;refine ⟨hS,f1,fun s hs=>?_,r3,r4,r5,r6⟩;obtain ⟨t,ht,e1,e2⟩:=f2 s hs;have:=r2 t ht;exact ⟨by rw [e2]; exact this.1,by rw [e1]; exact this.2⟩
theorem Ie {n:Nat} {E:Env} {g:Gm} (h:Ha.Good n E g.w):Ha.Good n E (Z5 (bod g.w.ms) g).w:=Qh _ _ h (fun t ht=>by
 have h1:=D6 t ht;have h2:=h.1.1;rw [h2] at h1;exact h1)
theorem Ig (g:Gm):(Z5 (bod g.w.ms) g).ns.length<=g.ns.length+36:=by
 have h:=(DZ (bod g.w.ms) g).2;have hb:=Dt (L:=g.w.ms);omega
theorem few {a b N:Nat} (h:a<=b) (hb:b*24<=N):a*24<=N:=Nat.le_trans (Nat.mul_le_mul_right 24 h) hb
end Go.Proofs.YthcjckgmdokmdaaGreatDoor
