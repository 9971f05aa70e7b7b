import Derived.Test.YtcgmohldcokccaaGreatDoorXR33
import Derived.Test.YtcgmohldcokccaaGreatDoorXR34
import Derived.Test.YtcgmohldcokccaaGreatDoorXR17
set_option linter.unusedVariables false
set_option maxHeartbeats 2000000
set_option maxRecDepth 100000
namespace Go.Proofs.YtcgmohldcokccaaGreatDoor
open Go.RowKit
open Go.Sort (HoldsK flatK SWO PermIn SortedIn)
open Pu Gp Ap Vp Np Za Ka Ja Ea Ha Hg Hi
structure AftD (w:World):Type where
 u:World
 s:Yc w u
 d:w.drawn<=u.drawn
theorem AftD.here(w:World):Nonempty (AftD w):=⟨⟨w,Fr.refl _ w,Nat.le_refl _⟩⟩
abbrev ClD(w:World):World->Prop:=fun w'=>∃z:AftD w,w'=z.u
theorem ClD.here(w:World):ClD w { w with drawn:=w.drawn+1 }:=⟨⟨w.drew,(Fr.refl _ w).drew,Nat.le_succ _⟩,rfl⟩
theorem Calls.clD_same{P:Program}{f:FuncId}{args:Array Value}{w:World}{z:AftD w}{v:Value}
  (h:Calls P f args z.u fun e w'=>e=.returned v/\w'=z.u):Calls P f args z.u fun e w''=>e=.returned v/\∃y:AftD w,w''=y.u:=
 h.mono fun _ _ ⟨he,hs⟩=>⟨he,z,hs⟩
theorem Yat{P:Program}{id:Nat}{Q:Exit->Act->World->Prop}{a:Act}{w:World}{l:List Oper}(n:Nat)(hm:P.follows .mixedOrders=true)(hB:Kv l n=true)
  (h:wpQuiet P (l.take n).toArray (fun w'=>∃z:AftD w,w'=z.u) (fun a'=>∀w',Yc w w'->w.drawn<=w'.drawn->wpList P l.toArray Q (l.drop n) a' w') (l.take n) a):(Code.region id l.toArray true).wp P Q a w:=by
 have e:(fun a'=>∀w',Yc w w'->w.drawn<=w'.drawn->wpList P l.toArray Q (l.drop n) a' w')=fun a'=>∀w',ClD w w'->wpList P l.toArray Q (l.drop n) a' w':=funext fun a'=>propext ⟨fun h w' ⟨z,e⟩=>e ▸ h z.u z.s z.d,fun h w' hs hd=>h w' ⟨⟨w',hs,hd⟩,rfl⟩⟩;rw[e]at h;exact Ww (C:=ClD w) n hm hB (ClD.here w) h
theorem ClD.cell{w:World}{p:Addr}{v:Value}(h:w.cell? p=some v):∀z:AftD w,z.u.cell? p=some v:=
 fun z=>(z.s.cell (World.block_lt_of_cell? w _ h) (fun e=>e)).trans h
theorem Yau(y z:Cm)(w:World):Calls Tryz.prog 44 #[xv y,xv z] w fun e w'=>e=.returned (.int .i64 (itn y z))/\Yc w w'/\w.drawn<=w'.drawn:=by
 have A0:=sA w (.cells (xcs y) 63);have A1:=sA (Zx w y) (.cells (xcs z) 63);have p0:=(Xc w y).sT A1;have q0:=Xc (Zx w y) z;rw[size_alloc]at q0;have HS:Hid (Yc w (Zx (Zx w y) z)/\w.drawn<=(Zx (Zx w y) z).drawn):=hid ⟨A0.trans A1,Nat.le_refl _⟩;have HU:Hid (itn y z=orI [cI y.pe z.pe,cI y.sq z.sq]):=hid rfl;have H0:=hid (fun w=>Q1 y.pe z.pe w);have H1:=hid (fun w=>Q1 y.sq z.sq w);obtain⟨r0,e0⟩:∃r,cI y.pe z.pe=r:=⟨_,rfl⟩;obtain⟨r1,e1⟩:∃r,cI y.sq z.sq=r:=⟨_,rfl⟩;rw[e0,e1]at HU;rw[e0]at H0;rw[e1]at H1;obtain⟨v,ev⟩:∃v,itn y z=v:=⟨_,rfl⟩;rw[ev]at HU⊢;clear e0 e1 ev;obtain⟨c0,c1,c2,c3,c4,c5,c6,_⟩:=p0.cells;obtain⟨d0,d1,d2,d3,d4,d5,d6,_⟩:=q0.cells;have k0:=ClD.cell c0;have l0:=ClD.cell d0;have k1:=ClD.cell c1;have l1:=ClD.cell d1;have k2:=ClD.cell c2;have l2:=ClD.cell d2;have k3:=ClD.cell c3;have l3:=ClD.cell d3;have k4:=ClD.cell c4;have l4:=ClD.cell d4;have k5:=ClD.cell c5;have l5:=ClD.cell d5;have k6:=ClD.cell c6;have l6:=ClD.cell d6;clear c0 c1 c2 c3 c4 c5 c6 d0 d1 d2 d3 d4 d5 d6;have hne:=AftD.here (Zx (Zx w y) z);clear A0 A1 p0 q0;go_enter Tryz.func44,Tryz.ntmps44;go_wp2_with fail;refine Yat 10 (by kernel_rfl) (by kernel_rfl) ?_;simp only[tkd];repeat(go_big_quiet_step ((first|(go_at_call 89;with_reducible exact Calls.clD_same (H0.o _))|(go_at_call 89;with_reducible exact Calls.clD_same (H1.o _)))))
 refine wpQuiet_nil ?_;intro w1 h1 hd1;have HS1:Hid (Yc w (w1.alloc (.cells #[.int .i64 r0,.int .i64 r1] 3))/\w.drawn<=(w1.alloc (.cells #[.int .i64 r0,.int .i64 r1] 3)).drawn):=hid ⟨(HS.o.1.trans h1).trans (sA w1 _),Nat.le_trans HS.o.2 hd1⟩;have HO:=hid (Fh _ _ _ _ _ (D7 w1 r0 r1));rw[<- HU.o]at HO;clear HU h1 hd1 k0 k1 k2 k3 k4 k5 k6 l0 l1 l2 l3 l4 l5 l6 hne H0 H1 HS;go_wp2_with fail;refine HO.o.mono ?_;rintro e w2 ⟨he,hw⟩;rw[he,hw];clear he hw w2 HO;go_wp2_with fail
 (try simp only[Exit.inBlock,Exit.then])
 go_ret;exact⟨rfl,HS1.o⟩
theorem TN:SWO (ltOf itn) where
 irrefl x:=by simp only[ltOf];exact decide_eq_false (by rw[Kf,lessC_iff];omega)
 trans x y z h1 h2:=by
  simp only[ltOf]at *
  have h1:=of_decide_eq_true h1;have h2:=of_decide_eq_true h2;refine decide_eq_true ?_;rw[Kf,lessC_iff]at *
  omega
 ntrans x y z h1 h2:=by
  simp only[ltOf]at *
  have h1:=of_decide_eq_false h1;have h2:=of_decide_eq_false h2;refine decide_eq_false ?_;rw[Kf,lessC_iff]at *
  omega
theorem Yav(L:List Cm)(B g n cap:Nat)(hn:n<=281474976710656)(hl:L.length=n)(w:World)(ho:OwG KX 63 w B (.slice (some ⟨g,0,none⟩) n cap) L):Calls Tryz.prog 43 #[.slice (some ⟨g,0,none⟩) n cap,.func (.func 44) #[] #[]] w fun e w'=>e=.returned (.tuple #[])/\∃L',L'.Perm L/\L'.Pairwise (fun x y=>¬Y8 y x=true)/\OwG KX 63 w' B (.slice (some ⟨g,0,none⟩) n cap) L'/\Fr (fun k=>k=g) w w':=by
 have inh:Inhabited Cm:=⟨⟨0,0,0,0,0,0,0⟩⟩;have eg:∀args w,(callFunc 44 args).run Tryz.prog w=.ok (.enter 44 args) w:=enters_of Tryz.func44 (by kernel_rfl) rfl;have hcmp:CmpLays Tryz.prog 44 #[] KX.f 7 itn g 0 L.toArray.size w:=fun m os dk hdk x y=>(Yau x y _).mono (fun e w' ⟨he,hs,hd⟩=>⟨he,Yaq hs hd⟩);have hd:L.toArray.size=n:=by simpa using hl
 have hgl:g<w.heap.size:=(ho.block (k:=g) rfl).2;have hlim:Lib.bitLen L.toArray.size<4611686018427387904:=Nat.lt_of_le_of_lt (Lib.bitLen_le L.toArray.size 62 (by omega) (by omega)) (by omega);have hp:=AnyQ.pdqsortCmpFunc_all (P:=Tryz.prog) Tryz.pdqE 7 Tryz.isAgg63 Tryz.sizeOf63 KX.f itn 44 #[] TN g 0 cap L.toArray w eg hcmp ⟨KX.len,KX.one,TM ho,hgl⟩ (L.toArray.size+1) 0 L.toArray.size (Lib.bitLen L.toArray.size) L.toArray w (by omega) rfl (SWK.start (TM ho)) (Nat.zero_le _) (Nat.le_refl _) (by omega) hlim (Or.inl rfl);have hs:=Go.Sort.pdq_sorts (ltOf itn) TN L.toArray 0 L.toArray.size (Lib.bitLen L.toArray.size) true true (Nat.zero_le _) (Nat.le_refl _) (Or.inl rfl);have hb:Yb 87 #[.int .u64 (n:Int)] w (.int .i64 (Lib.bitLen n:Nat)):=by
  have h:=Any.bits_Len (SlLaysF0.n15.bits (P:=Tryz.prog) Tryz.lenE) (n:Int) w (by omega) (by omega);rw[Int.toNat_natCast]at h;exact h
 generalize Go.Sort.pdq (ltOf itn) L.toArray 0 L.toArray.size (Lib.bitLen L.toArray.size) true true=d' at hp hs;obtain⟨L',rfl⟩:∃L',L'.toArray=d':=⟨d'.toList,by simp⟩;have hl':L'.length=L.length:=by simpa using hs.1.1
 have hperm:L'.Perm L:=by
  have:=hs.1.2.2;simp at this;rw[List.take_of_length_le (by omega)]at this;exact this
 have hsrt:L'.Pairwise (fun x y=>¬Y8 y x=true):=List.pairwise_iff_getElem.2 fun i j hi hj hij=>by
  have:=hs.2 i j (Nat.zero_le _) hij (by simp;omega);rw[getElem!_pos L'.toArray i (by simpa using hi),getElem!_pos L'.toArray j (by simpa using hj)]at this;have h1:=of_decide_eq_false this;rw[Kf]at h1;simpa using h1
 rw[hd]at hp;have hp2:Calls Tryz.prog 86 #[.slice (some ⟨g,0,none⟩) n cap,.int .i64 0,.int .i64 (n:Int),.int .i64 (Lib.bitLen n:Nat),.func (.func 44) #[] #[]] w fun e w'=>e=.returned (.tuple #[])/\SWK KX.f 7 w g 0 L'.toArray w':=hp;have HP:=hid hp2;have HB:=hid hb;have HO:=hid (fun m os=>Yas (m:=m) (os:=os) ho hl hl');have HR:=hid (And.intro hperm hsrt);have hw1:IntKind.u64.wrap (n:Int)=(n:Int):=by simp[IntKind.wrap,IntKind.bits,IntKind.signed];omega
 clear hp hp2 hb hs hcmp eg ho hperm hsrt hd hlim;go_enter Tryz.func43,Tryz.ntmps43;go_wp2_with fail;refine HB.o.mono ?_;rintro e w2 ⟨he,hw⟩;rw[he,hw];clear he hw w2 HB;go_wp2_with fail;refine HP.o.mono ?_;rintro e w2 ⟨he,m,os,hw⟩;rw[he];have HO2:Hid (OwG KX 63 w2 B (.slice (some ⟨g,0,none⟩) n cap) L'/\Fr (fun k=>k=g) w w2):=hid (by rw[hw];exact HO.o m os);clear he hw HP HO;go_wp2_with fail;go_end0;exact⟨rfl,L',HR.o.1,HR.o.2,HO2.o⟩
end Go.Proofs.YtcgmohldcokccaaGreatDoor
