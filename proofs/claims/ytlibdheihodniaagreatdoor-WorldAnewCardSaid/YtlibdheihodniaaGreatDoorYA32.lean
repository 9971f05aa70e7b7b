/- Parts of the proof, laid end to end. -/
import Derived.Test.YtlibdheihodniaaGreatDoorYA31
import Derived.Test.YtlibdheihodniaaGreatDoorYA21
import Derived.Test.YtlibdheihodniaaGreatDoorYA28
import Derived.Deep.DeepCutAuto
import Derived.Deep.RegionHeld3
set_option maxHeartbeats 8000000
namespace Go.Proofs.YtlibdheihodniaaGreatDoor
open Go.RowKit
open Pu Gp Ap Vp Np Za Ka Ja Ea Ha Hg Hi
set_option maxRecDepth 100000
theorem blen64_zero (w:World):Calls Tryz.prog 78 #[.int .u64 0] w fun e w'=>(∃ l:Int,e=.returned (.int .i64 l))/\w'=w:=by
 go_enter Tryz.func78,Tryz.ntmps78
 go_wp2_with fail
 go_ret
 exact ⟨⟨_,rfl⟩,rfl⟩
theorem blen_zero (w:World):Calls Tryz.prog 40 #[.int .u64 0] w fun e w'=>(∃ l:Int,e=.returned (.int .i64 l))/\w'=w:=by
 go_enter Tryz.func40,Tryz.ntmps40
 go_wp2_with fail
 refine (blen64_zero _).mono ?_
 rintro e w1 ⟨⟨l,rfl⟩,rfl⟩
 go_wp2_with fail
 go_ret
 exact ⟨⟨_,rfl⟩,rfl⟩
theorem xins_zero (ao:Option Addr) (cap:Nat) (fv:Value) (w:World):Calls Tryz.prog 69 #[.slice ao 0 cap,.int .i64 0,.int .i64 0,fv] w fun e w'=>e=.returned (.tuple #[])/\w'=w:=by
 go_enter Tryz.func69,Tryz.ntmps69
 go_wp2_with fail
 refine wp_loop_rounds 1 ?_
 rw [rounds_succ]
 go_wp2_with fail
 go_end0
 exact ⟨rfl,rfl⟩
theorem xpdq_zero (ao:Option Addr) (cap:Nat) (lim:Int) (fv:Value) (w:World):Calls Tryz.prog 39 #[.slice ao 0 cap,.int .i64 0,.int .i64 0,.int .i64 lim,fv] w fun e w'=>e=.returned (.tuple #[])/\w'=w:=by
 have H:=hid (fun w=>xins_zero ao cap fv w)
 go_enter Tryz.func39,Tryz.ntmps39
 go_wp2_with fail
 refine wp_loop_rounds 1 ?_
 rw [rounds_succ]
 go_wp2_with fail
 refine (H.out _).mono ?_
 rintro e w1 ⟨rfl,rfl⟩
 go_wp2_with fail
 (try simp only [Exit.inBlock,Exit.then])
 refine bodyPost_ret (results_none rfl _ _ _) rfl ?_
 exact ⟨rfl,rfl⟩
theorem xsort_zero (ao:Option Addr) (cap:Nat) (fv:Value) (w:World):Calls Tryz.prog 22 #[.slice ao 0 cap,fv] w fun e w'=>e=.returned (.tuple #[])/\w'=w:=by
 have H:=hid (fun lim w=>xpdq_zero ao cap lim fv w)
 go_enter Tryz.func22,Tryz.ntmps22
 go_wp2_with fail
 refine (blen_zero _).mono ?_
 rintro e w1 ⟨⟨l,rfl⟩,rfl⟩
 go_wp2_with fail
 refine (H.out _ _).mono ?_
 rintro e w2 ⟨rfl,rfl⟩
 go_wp2_with fail
 go_end0
 exact ⟨rfl,rfl⟩
theorem xsort_all (L:List Cm) (B:Nat) (v:Value) (hn:L.length<=281474976710656) (w:World) (ho:OwG KX xcT w B v L):Calls Tryz.prog 22 #[v,.func (.func 23) #[] #[]] w fun e w'=>e=.returned (.tuple #[])/\∃ L',L'.Perm L/\L'.Pairwise (fun x y=>¬ lessC y x=true)/\OwG KX xcT w' B v L'/\Fr (fun k=>v.ownBlock=some k) w w':=by
 rcases ho.2 with ⟨rfl,h0⟩ | ⟨g,cap,cur,rfl,_⟩
 ·refine (xsort_zero none 0 _ w).mono ?_
  rintro e w' ⟨he,hw⟩
  rw [hw]
  have hl:L=[]:=List.eq_nil_of_length_eq_zero h0
  subst hl
  exact ⟨he,[],List.Perm.refl _,List.Pairwise.nil,ho,Fr.refl _ _⟩
 ·refine (xsort_any L B g L.length cap hn rfl w ho).mono ?_
  rintro e w' ⟨he,L',h1,h2,h3,h4⟩
  exact ⟨he,L',h1,h2,h3,h4.mono (fun k _ e=>by subst e; rfl)⟩
structure Fs (B:Nat) (wr:World) (gf f:Nat) (vs:List Value) (L:List Cm):Prop where
 bk:wr.heap[gf]?=some (.cells vs.toArray xsT (0,0))
 len:vs.length=f
 ow:∀ k,k<f->OwG KX xcT wr B (vs.getD k nilS) (ofC L ((k:Int)+1))
theorem Fs.still {B:Nat} {wr w':World} {gf f:Nat} {vs:List Value} {L:List Cm} (h:Fs B wr gf f vs L) (hs:Still wr w'):Fs B w' gf f vs L:=⟨hs.kept_still h.bk,h.len,fun k hk=>(h.ow k hk).still hs⟩
theorem Fs.set {B:Nat} {wr:World} {gf f g:Nat} {vs:List Value} {L:List Cm} (h:Fs B wr gf f vs L) (hg:Tyk wr g 35) (v0 v1 v2 v3 v4 v5:Value):Fs B ((((((wr.setCell ⟨g,0,none⟩ v0).setCell ⟨g,1,none⟩ v1).setCell ⟨g,2,none⟩ v2).setCell ⟨g,3,none⟩ v3).setCell ⟨g,4,none⟩ v4).setCell ⟨g,5,none⟩ v5) gf f vs L:=by
 have hn:gf≠g:=by obtain ⟨cs,hc⟩:=hg; exact ty_neV h.bk hc (by decide)
 refine ⟨?_,h.len,fun k hk=>(h.ow k hk).set6 hg (by decide) _ _ _ _ _ _⟩
 rw [heap_setCell_other _ _ _ _ hn,heap_setCell_other _ _ _ _ hn,heap_setCell_other _ _ _ _ hn,heap_setCell_other _ _ _ _ hn,heap_setCell_other _ _ _ _ hn,heap_setCell_other _ _ _ _ hn]
 exact h.bk
theorem Fs.cell {B:Nat} {wr:World} {gf f:Nat} {vs:List Value} {L:List Cm} (h:Fs B wr gf f vs L) {k:Nat} (hk:k<f):∃ ao m cp,wr.cell? ⟨gf,k,none⟩=some (.slice ao m cp)/\m=(ofC L ((k:Int)+1)).length/\OwG KX xcT wr B (.slice ao m cp) (ofC L ((k:Int)+1)):=by
 obtain ⟨ao,cp,ev,_⟩:=(h.ow k hk).slice
 refine ⟨ao,_,cp, ?_,rfl,by rw [<- ev]; exact h.ow k hk⟩
 rw [cell_of_row _ _ _ _ _ _ h.bk,<- ev]
 have:k<vs.length:=by rw [h.len]; exact hk
 simp [List.getD,this]
structure RfI (w wr:World) (gs gw gf f:Nat) (Sn:Se) (E:Env) (N:Nat) (L:List Cm) (vs:List Value) (k:Nat):Prop where
 s:Still w wr
 q:Seb wr gs Sn
 z:Wdb wr (w.heap.size+1) 0 0 (.slice none 0 0) (.slice none 0 0) (.slice none 0 0) (.slice none 0 0)
 o:WdO wr w.heap.size gw (refW E N L k)
 t:OwG KT 46 wr w.heap.size Sn.st E.st
 p:OwG KT 46 wr w.heap.size Sn.sp E.sp
 f:Fs w.heap.size wr gf f vs L
def RefR (w w':World) (E:Env) (N f:Nat) (L:List Cm) (e:Ending):Prop:=∃ u,e=.returned (.tuple #[u,.int .i64 0])/\OwW w' w.heap.size u (refW E N L f)/\Still w w'
def RefN (w w':World) (e:Ending):Prop:=∃ k:Int,k≠0/\e=.returned (.tuple #[.agg (wdcs 0 0 (.slice none 0 0) (.slice none 0 0) (.slice none 0 0) (.slice none 0 0)),.int .i64 k])/\Still w w'
def RefOk (N:Nat) (fI:Int) (L:List Cm):Prop:=0<=fI/\fI<=4096/\(∀ x∈L,Rgt N x)/\Dst L
def RefQ (w w':World) (E:Env) (N:Nat) (fI:Int) (L:List Cm) (e:Ending):Prop:=(RefOk N fI L->RefR w w' E N fI.toNat L e)/\(¬ RefOk N fI L->RefN w w' e)
theorem RefQ.no {w w':World} {E:Env} {N:Nat} {fI:Int} {L:List Cm} {e:Ending} (h:¬ RefOk N fI L) (hn:RefN w w' e):RefQ w w' E N fI L e:=⟨fun g=>absurd g h,fun _=>hn⟩
theorem RefQ.yes {w w':World} {E:Env} {N f:Nat} {L:List Cm} {e:Ending} (h:RefOk N (f:Int) L) (hn:RefR w w' E N f L e):RefQ w w' E N (f:Int) L e:=⟨fun _=>hn,fun g=>absurd h g⟩
theorem wref_any (N:Nat) (q C R:Int) (s:ByteArray) (lo:Option Addr) (ln lc:Nat) (E:Env) (l:List Int) (w:World) (v0:Int) (Q:Q13 w ⟨(N:Int),q,C,R,s,.slice lo ln lc⟩ v0 E.st E.sp) (D:P13 w ⟨(N:Int),q,C,R,s,.slice lo ln lc⟩ E) (hr:RdI w lo ln lc l) (hc:CfgP (N:Int) v0 E.st.length l) (hs16:E.sp.length<=16) (fI:Int) (xo:Option Addr) (n xcp:Nat) (L:List Cm) (hx:RdG KX w xo n L) (hcx:xo=none->xcp=0) (h47:56*n<=140737488351232) :
  Calls Tryz.prog 9 #[.agg #[.int .i64 (N:Int),.int .u64 q,.int .i64 C,.int .i64 R,.string s,.slice lo ln lc],.int .i64 fI,.slice xo n xcp] w fun e w'=>RefQ w w' E N fI L e:=by
 have A0:=Still.alloc w (.cells #[.int .i64 (N:Int),.int .u64 q,.int .i64 C,.int .i64 R,.string s,.slice lo ln lc] 27)
 have A1:=Still.alloc (w.alloc (.cells #[.int .i64 (N:Int),.int .u64 q,.int .i64 C,.int .i64 R,.string s,.slice lo ln lc] 27)) (.cells (wdcs 0 0 (.slice none 0 0) (.slice none 0 0) (.slice none 0 0) (.slice none 0 0)) 35)
 have p0:=(newCf_cb w ⟨(N:Int),q,C,R,s,.slice lo ln lc⟩).still A1
 have z0:=newWd_wb (w.alloc (.cells #[.int .i64 (N:Int),.int .u64 q,.int .i64 C,.int .i64 R,.string s,.slice lo ln lc] 27)) 0 0 (.slice none 0 0) (.slice none 0 0) (.slice none 0 0) (.slice none 0 0)
 rw [size_alloc] at z0
 have HS0:Hid (Still w ((w.alloc (.cells #[.int .i64 (N:Int),.int .u64 q,.int .i64 C,.int .i64 R,.string s,.slice lo ln lc] 27)).alloc (.cells (wdcs 0 0 (.slice none 0 0) (.slice none 0 0) (.slice none 0 0) (.slice none 0 0)) 35))):=hid (A0.trans A1)
 have HP0:Hid (Cfb ((w.alloc (.cells #[.int .i64 (N:Int),.int .u64 q,.int .i64 C,.int .i64 R,.string s,.slice lo ln lc] 27)).alloc (.cells (wdcs 0 0 (.slice none 0 0) (.slice none 0 0) (.slice none 0 0) (.slice none 0 0)) 35)) w.heap.size ⟨(N:Int),q,C,R,s,.slice lo ln lc⟩):=hid p0
 have HZ0:Hid (Wdb ((w.alloc (.cells #[.int .i64 (N:Int),.int .u64 q,.int .i64 C,.int .i64 R,.string s,.slice lo ln lc] 27)).alloc (.cells (wdcs 0 0 (.slice none 0 0) (.slice none 0 0) (.slice none 0 0) (.slice none 0 0)) 35)) (w.heap.size+1) 0 0 (.slice none 0 0) (.slice none 0 0) (.slice none 0 0) (.slice none 0 0)):=hid z0
 have HOp:=hid (open_yes N q C R s lo ln lc E l ((w.alloc (.cells #[.int .i64 (N:Int),.int .u64 q,.int .i64 C,.int .i64 R,.string s,.slice lo ln lc] 27)).alloc (.cells (wdcs 0 0 (.slice none 0 0) (.slice none 0 0) (.slice none 0 0) (.slice none 0 0)) 35)) v0 (Q.still (A0.trans A1)) (hr.still (A0.trans A1)) hc _ _ rfl rfl)
 have HN:=hid (show N<=6/\N<=E.st.length by have:=hc.2.1; have:=hc.2.2.2.1; omega)
 have HD:=hid D
 have HX:=hid hx
 have H16:=hid hs16
 obtain ⟨n1,e1⟩:∃ k,E.st.length=k:=⟨_,rfl⟩
 obtain ⟨n2,e2⟩:∃ k,E.sp.length=k:=⟨_,rfl⟩
 rw [e1,e2] at HOp
 clear Q hr hc A0 A1 p0 z0 e1 e2 D hx hs16
 obtain ⟨W0,eW0⟩:∃ X,((w.alloc (.cells #[.int .i64 (N:Int),.int .u64 q,.int .i64 C,.int .i64 R,.string s,.slice lo ln lc] 27)).alloc (.cells (wdcs 0 0 (.slice none 0 0) (.slice none 0 0) (.slice none 0 0) (.slice none 0 0)) 35))=X:=⟨_,rfl⟩
 rw [eW0] at HS0 HP0 HZ0 HOp
 obtain ⟨c0,c1,c2,c3,c4,c5,cf⟩:=HP0.out.cells
 go_enter Tryz.func9,Tryz.ntmps9
 go_wp2_with fail
 refine HOp.out.mono ?_
 rintro e w1 ⟨ao,ac,bo,bc,rfl,o1,o2,h1⟩
 have A2:=Still.alloc w1 (.cells #[.int .i64 (N:Int),.int .u64 q,.int .i64 C,.int .i64 R,.string s,.slice lo ln lc,.slice ao n1 ac,.slice bo n2 bc] 68)
 have HS1:Hid (Still w (w1.alloc (.cells #[.int .i64 (N:Int),.int .u64 q,.int .i64 C,.int .i64 R,.string s,.slice lo ln lc,.slice ao n1 ac,.slice bo n2 bc] 68))):=hid ((HS0.out.trans h1).trans A2)
 have HQ1:Hid (Seb (w1.alloc (.cells #[.int .i64 (N:Int),.int .u64 q,.int .i64 C,.int .i64 R,.string s,.slice lo ln lc,.slice ao n1 ac,.slice bo n2 bc] 68)) w1.heap.size ⟨⟨(N:Int),q,C,R,s,.slice lo ln lc⟩,.slice ao n1 ac,.slice bo n2 bc,.slice none 0 0⟩):=hid (heap_alloc_new w1 _)
 have HZ1:Hid (Wdb (w1.alloc (.cells #[.int .i64 (N:Int),.int .u64 q,.int .i64 C,.int .i64 R,.string s,.slice lo ln lc,.slice ao n1 ac,.slice bo n2 bc] 68)) (w.heap.size+1) 0 0 (.slice none 0 0) (.slice none 0 0) (.slice none 0 0) (.slice none 0 0)):=hid ((HZ0.out.still h1).still A2)
 have HO1:Hid (OwG KT 46 (w1.alloc (.cells #[.int .i64 (N:Int),.int .u64 q,.int .i64 C,.int .i64 R,.string s,.slice lo ln lc,.slice ao n1 ac,.slice bo n2 bc] 68)) w.heap.size (.slice ao n1 ac) E.st):=hid ((o1.still A2).less HS0.out.size)
 have HO2:Hid (OwG KT 46 (w1.alloc (.cells #[.int .i64 (N:Int),.int .u64 q,.int .i64 C,.int .i64 R,.string s,.slice lo ln lc,.slice ao n1 ac,.slice bo n2 bc] 68)) w.heap.size (.slice bo n2 bc) E.sp):=hid ((o2.still A2).less HS0.out.size)
 clear eW0 HOp c0 c1 c2 c3 c4 c5 cf o1 o2 h1 A2 HS0 HP0 HZ0
 obtain ⟨W1,eW1⟩:∃ X,w1.alloc (.cells #[.int .i64 (N:Int),.int .u64 q,.int .i64 C,.int .i64 R,.string s,.slice lo ln lc,.slice ao n1 ac,.slice bo n2 bc] 68)=X:=⟨_,rfl⟩
 rw [eW1] at HS1 HQ1 HZ1 HO1 HO2
 obtain ⟨gs,egs⟩:∃ k,w1.heap.size=k:=⟨_,rfl⟩
 rw [egs] at HQ1
 go_wp2_with fail
 clear eW1 egs
 by_cases hf:0<=fI/\fI<=4096
 rotate_left
 ·have HW:=hid (fun w=>wwithin64_any fI 0 4096 w)
  rw [decide_eq_false hf] at HW
  have HNo:Hid (¬ RefOk N fI L):=hid (fun h=>hf ⟨h.1,h.2.1⟩)
  clear hf
  refine (HW.out _).mono ?_
  rintro e w2 ⟨he,hw⟩
  rw [he,hw]
  clear he hw w2 HW
  obtain ⟨z0,z1,z2,z3,z4,z5,zf⟩:=HZ1.out.cells
  go_wp2_with fail
  exact bodyPost_ret (Wdb.res2 (HZ1.out.put 0 0 _ _ _ _) rfl _ _ rfl rfl) rfl (.no HNo.out ⟨1,by decide,rfl,still_set6 HS1.out (by omega) _ _ _ _ _ _⟩)
 have HW:=hid (fun w=>wwithin64_any fI 0 4096 w)
 rw [decide_eq_true hf] at HW
 obtain ⟨f,rfl⟩:∃ f:Nat,fI=(f:Int):=⟨fI.toNat,by omega⟩
 have hf4:f<=4096:=by omega
 clear hf
 refine (HW.out _).mono ?_
 rintro e w2 ⟨he,hw⟩
 rw [he,hw]
 clear he hw w2 HW
 go_wp2_with fail
 refine (cloneKX_any L xo n xcp W1 (HX.out.still HS1.out) hcx (by omega)).mono ?_
 rintro e w3 ⟨xv1,rfl,ox,h3⟩
 have HLn:Hid (L.length=n):=hid HX.out.1
 have HXs:=hid (xsort_all L W1.heap.size xv1 (by rw [HLn.out]; omega) w3 ox)
 have HOX:=hid ox
 have HS3:=hid (HS1.out.trans h3)
 have HQ3:=hid (HQ1.out.still h3)
 have HZ3:=hid (HZ1.out.still h3)
 have HO3:=hid (HO1.out.still h3)
 have HO4:=hid (HO2.out.still h3)
 have HWz:Hid (w.heap.size<=W1.heap.size/\gs<W1.heap.size/\w.heap.size+1<W1.heap.size):=hid ⟨HS1.out.size,block_lt HQ1.out,block_lt HZ1.out⟩
 obtain ⟨xo3,xc3,ev3,_⟩:=ox.slice
 rw [HLn.out] at ev3
 subst ev3
 have HOb:Hid (∀ k,((Value.slice ao n1 ac).ownBlock=some k\/(Value.slice bo n2 bc).ownBlock=some k)->k<W1.heap.size):=hid (fun k hk=>hk.elim (fun e=>(HO1.out.block e).2) (fun e=>(HO2.out.block e).2))
 clear ox h3 HS1 HQ1 HZ1 HO1 HO2
 go_wp2_with fail
 refine HXs.out.mono ?_
 rintro e w4 ⟨he,S,hperm,hsrt,ho4,hf4'⟩
 rw [he]
 have h34:∀ k,(Value.slice xo3 n xc3).ownBlock=some k->W1.heap.size<=k:=fun k hk=>(HOX.out.block hk).1
 have HS4:Hid (Still w w4):=hid (Fr.trans HS3.out hf4' (fun k hk e=>by have:=h34 k e; have:=HWz.out; omega))
 have HQ4:Hid (Seb w4 gs ⟨⟨(N:Int),q,C,R,s,.slice lo ln lc⟩,.slice ao n1 ac,.slice bo n2 bc,.slice none 0 0⟩):=hid (hf4'.kept HQ3.out (fun e=>by have:=h34 _ e; have:=HWz.out; omega))
 have HZ4:Hid (Wdb w4 (w.heap.size+1) 0 0 (.slice none 0 0) (.slice none 0 0) (.slice none 0 0) (.slice none 0 0)):=hid (hf4'.kept HZ3.out (fun e=>by have:=h34 _ e; have:=HWz.out; omega))
 have HO5:=hid (HO3.out.keep hf4' (fun k hk e=>by have:=h34 k hk; have:=HOb.out k (.inl e); omega))
 have HO6:=hid (HO4.out.keep hf4' (fun k hk e=>by have:=h34 k hk; have:=HOb.out k (.inr e); omega))
 have hSl:S.length=n:=by rw [hperm.length_eq,HLn.out]
 have HRS:Hid (RdG KX w4 xo3 n S):=hid (by have h:=owG_rd ho4 (by omega); rw [hSl] at h; exact h)
 have HPm:=hid hperm
 have HSr:=hid hsrt
 have HBw:Hid (w.heap.size<=W1.heap.size):=hid HWz.out.1
 clear he hf4' ho4 h34 hperm hsrt HXs HOX HS3 HQ3 HZ3 HO3 HO4 HOb
 obtain ⟨c0,c1,c2,c3,c4,c5,c6,c7,cf⟩:=HQ4.out.cells
 have HMa:=hid (mayall_any ⟨⟨(N:Int),q,C,R,s,.slice lo ln lc⟩,.slice ao n1 ac,.slice bo n2 bc,.slice none 0 0⟩ N rfl HN.out.1 S xo3 n xc3 w4 HRS.out)
 clear hSl
 go_wp2_with fail
 refine HMa.out.mono ?_
 rintro e w5 ⟨hb,h5⟩
 have HS5:=hid (HS4.out.trans h5)
 have HQ5:=hid (HQ4.out.still h5)
 have HZ5:=hid (HZ4.out.still h5)
 have HO7:=hid (HO5.out.still h5)
 have HO8:=hid (HO6.out.still h5)
 have HR5:=hid (HRS.out.still h5)
 have HIf:Hid (OrdAll N S ↔ (∀ x∈L,Rgt N x)/\Dst L):=hid ((ordall_iff HSr.out).trans ⟨fun h=>⟨fun x hx=>h.1 x (HPm.out.mem_iff.2 hx),dst_perm HPm.out h.2⟩,fun h=>⟨fun x hx=>h.1 x (HPm.out.mem_iff.1 hx),dst_perm HPm.out.symm h.2⟩⟩)
 clear h5 HMa HS4 HQ4 HZ4 HO5 HO6 HRS c0 c1 c2 c3 c4 c5 c6 c7 cf
 by_cases hall:OrdAll N S
 rotate_left
 ·obtain rfl:=hb.is_no hall
  have HNo:Hid (¬ RefOk N (f:Int) L):=hid (fun h=>hall (HIf.out.2 h.2.2))
  clear hb hall
  obtain ⟨z0,z1,z2,z3,z4,z5,zf⟩:=HZ5.out.cells
  go_wp2_with fail
  exact bodyPost_ret (Wdb.res2 (HZ5.out.put 0 0 _ _ _ _) rfl _ _ rfl rfl) rfl (.no HNo.out ⟨132,by decide,rfl,still_set6 HS5.out (by omega) _ _ _ _ _ _⟩)
 obtain rfl:=hb.is_yes hall
 have hok:=HIf.out.1 hall
 have HYes:Hid (RefOk N (f:Int) L):=hid ⟨by omega,by omega,hok⟩
 clear hb hall HIf hok
 obtain ⟨c0,c1,c2,c3,c4,c5,c6,c7,cf⟩:=HQ5.out.cells
 go_wp2_with fail
 refine (wbegin_any N q C R s lo ln lc ao n1 ac bo n2 bc E w5 w.heap.size HO7.out HN.out.1 HN.out.2).mono ?_
 rintro e w6 ⟨u,rfl,⟨a,b,c,d,rfl,q1,q2,q3,q4⟩,h6⟩
 obtain ⟨xa,ya,rfl,_⟩:=q1.slice
 obtain ⟨xb,yb,rfl,_⟩:=q2.slice
 obtain ⟨xc,yc,rfl,_⟩:=q3.slice
 obtain ⟨xd,yd,rfl,_⟩:=q4.slice
 obtain ⟨m1,g1⟩:∃ k,(nw0 E N).ms.length=k:=⟨_,rfl⟩
 obtain ⟨m2,g2⟩:∃ k,(nw0 E N).cs.length=k:=⟨_,rfl⟩
 obtain ⟨m3,g3⟩:∃ k,(nw0 E N).hs.length=k:=⟨_,rfl⟩
 obtain ⟨m4,g4⟩:∃ k,(nw0 E N).ks.length=k:=⟨_,rfl⟩
 obtain ⟨fr,g5⟩:∃ k,(nw0 E N).fr=k:=⟨_,rfl⟩
 obtain ⟨nx,g6⟩:∃ k,(nw0 E N).nx=k:=⟨_,rfl⟩
 have hz0:WdO (w6.alloc (.cells (wdcs fr nx (.slice xa m1 ya) (.slice xb m2 yb) (.slice xc m3 yc) (.slice xd m4 yd)) 35)) w.heap.size w6.heap.size (nw0 E N):=by
  have A:=Still.alloc w6 (.cells (wdcs fr nx (.slice xa m1 ya) (.slice xb m2 yb) (.slice xc m3 yc) (.slice xd m4 yd)) 35)
  have hB:=HS5.out.size
  refine ⟨_,_,_,_, ?_,(q1.still A).less hB,(q2.still A).less hB,(q3.still A).less hB,(q4.still A).less hB⟩
  rw [g1,g2,g3,g4,g5,g6]
  exact newWd_wb w6 fr nx _ _ _ _
 rw [g1,g2,g3,g4,g5,g6]
 have A7:=Still.alloc w6 (.cells (wdcs fr nx (.slice xa m1 ya) (.slice xb m2 yb) (.slice xc m3 yc) (.slice xd m4 yd)) 35)
 have h7:=h6.trans A7
 have HS7:=hid (HS5.out.trans h7)
 have HQ7:=hid (HQ5.out.still h7)
 have HZ7:=hid (HZ5.out.still h7)
 have HP7:=hid (HO7.out.still h7)
 have HR7:=hid (HO8.out.still h7)
 have HX7:=hid (HR5.out.still h7)
 have HW7:=hid hz0
 have HG7:=hid (show w.heap.size+1<w6.heap.size/\gs<w6.heap.size by have h1:=block_lt HZ5.out; have h2:=block_lt HQ5.out; have:=h6.size; omega)
 obtain ⟨W7,eW7⟩:∃ X,w6.alloc (.cells (wdcs fr nx (.slice xa m1 ya) (.slice xb m2 yb) (.slice xc m3 yc) (.slice xd m4 yd)) 35)=X:=⟨_,rfl⟩
 rw [eW7] at HS7 HQ7 HZ7 HP7 HR7 HX7 HW7
 obtain ⟨gw,egw⟩:∃ k,w6.heap.size=k:=⟨_,rfl⟩
 rw [egw] at HW7 HG7
 have HBy:=hid (byframes_any S xo3 n xc3 f (by omega) h47 W7 HX7.out)
 clear g1 g2 g3 g4 g5 g6 A7 h6 h7 q1 q2 q3 q4 hz0 c0 c1 c2 c3 c4 c5 c6 c7 cf HS5 HQ5 HZ5 HO7 HO8 HR5 HX7
 go_wp2_with fail
 clear eW7 egw
 refine HBy.out.mono ?_
 rintro e w8 ⟨gf,vs,rfl,hbf⟩
 have HI0:Hid (RfI w w8 gs gw gf f ⟨⟨(N:Int),q,C,R,s,.slice lo ln lc⟩,.slice ao n1 ac,.slice bo n2 bc,.slice none 0 0⟩ E N L vs 0):=hid (by
  have hS:=hbf.st
  refine ⟨HS7.out.trans hS,HQ7.out.still hS,HZ7.out.still hS,HW7.out.still hS,HP7.out.still hS,HR7.out.still hS,hbf.bk,hbf.len,fun k hk=>?_⟩
  have h:=(hbf.ow k hk).less HS7.out.size
  have e:ofF S k=ofC L ((k:Int)+1):=srt_of HPm.out HSr.out HYes.out.2.2.2 _
  rw [e] at h
  exact h)
 clear hbf HBy HS7 HQ7 HZ7 HP7 HR7 HW7 HPm HSr
 go_wp2_with fail
 go_loopw [41] (fun u wr=>∃ k:Nat,k<=f/\u=.int .i64 (k:Int)/\Hid (RfI w wr gs gw gf f ⟨⟨(N:Int),q,C,R,s,.slice lo ln lc⟩,.slice ao n1 ac,.slice bo n2 bc,.slice none 0 0⟩ E N L vs k)) (fun u _=>f - (intOf u).toNat)
 case atStart=>exact ⟨0,by omega,rfl,HI0⟩
 case round =>
  obtain ⟨k,hk,rfl,HI⟩:=hrel
  clear HI0
  have hgr:=good_ref (E:=E) HN.out.1 (good_nw0 H16.out) HYes.out.2.2.1 k
  obtain ⟨xa,xb,xc,xd,h8,p1,p2,p3,p4⟩:=HI.out.o
  obtain ⟨gl1,gl2,gl3,gl4⟩:=good_len hgr.1 HN.out.1
  have hv8:=OwW.rd (show OwW wr w.heap.size _ (refW E N L k) from ⟨xa,xb,xc,xd,rfl,p1,p2,p3,p4⟩) gl1 gl2 gl3 gl4
  obtain ⟨o1,k1,rfl,_⟩:=p1.slice
  obtain ⟨o2,k2,rfl,_⟩:=p2.slice
  obtain ⟨o3,k3,rfl,_⟩:=p3.slice
  obtain ⟨o4,k4,rfl,_⟩:=p4.slice
  obtain ⟨m1,g1⟩:∃ j,(refW E N L k).ms.length=j:=⟨_,rfl⟩
  obtain ⟨m2,g2⟩:∃ j,(refW E N L k).cs.length=j:=⟨_,rfl⟩
  obtain ⟨m3,g3⟩:∃ j,(refW E N L k).hs.length=j:=⟨_,rfl⟩
  obtain ⟨m4,g4⟩:∃ j,(refW E N L k).ks.length=j:=⟨_,rfl⟩
  obtain ⟨nx,g6⟩:∃ j,(refW E N L k).nx=j:=⟨_,rfl⟩
  rw [g1,g2,g3,g4,g6,hgr.2] at hv8 h8
  rw [g1] at p1
  rw [g2] at p2
  rw [g3] at p3
  rw [g4] at p4
  have H8:=hid h8
  have HPp:=hid (And.intro p1 (And.intro p2 (And.intro p3 p4)))
  by_cases hkf:k<f
  ·have hlt:(k:Int)<(f:Int):=by omega
   have hk0:(0:Int)<=(k:Int):=by omega
   obtain ⟨co,mc,cc,hcell,hmc,hoc⟩:=HI.out.f.cell hkf
   have hml:mc<=n:=by
    rw [hmc,(ofC_perm L _).length_eq,<- HLn.out]
    exact List.length_filter_le _ _
   have HStp:=hid (wstep_any (N:Int) q C R s lo ln lc ao n1 ac bo n2 bc co mc cc E wr (HD.out.still HI.out.s) w.heap.size (refW E N L k) N (ofC L ((k:Int)+1)) (by have h:=owG_rd hoc (by omega); rw [<- hmc] at h; exact h) HI.out.t HI.out.p HN.out.1 HN.out.2 H16.out hgr.1 (by rw [hgr.2]; omega) (fun y hy=>HYes.out.2.2.1 y (ofC_mem.1 hy).1) (by omega) _ hv8)
   have HGr:=hid hgr
   obtain ⟨c0,c1,c2,c3,c4,c5,c6,c7,cf⟩:=HI.out.q.cells
   obtain ⟨d0,d1,d2,d3,d4,d5,df⟩:=h8.cells
   clear hmc hoc hv8 h8 p1 p2 p3 p4 g1 g2 g3 g4 g6 gl1 gl2 gl3 gl4 hgr
   go_wp2_with fail
   refine HStp.out.mono ?_
   rintro e w9 ⟨h9,u,nv,rfl,hW,hnv⟩
   have eR:(frame E (refW E N L k) (ofC L ((k:Int)+1))).w=refW E N L (k+1):=rfl
   rw [eR] at hW
   obtain ⟨a,b,c,d,rfl,q1,q2,q3,q4⟩:=hW
   obtain ⟨y1,r1,rfl,_⟩:=q1.slice
   obtain ⟨y2,r2,rfl,_⟩:=q2.slice
   obtain ⟨y3,r3,rfl,_⟩:=q3.slice
   obtain ⟨y4,r4,rfl,_⟩:=q4.slice
   obtain ⟨y5,r5,rfl,_⟩:=hnv.slice
   obtain ⟨j1,f1⟩:∃ j,(refW E N L (k+1)).ms.length=j:=⟨_,rfl⟩
   obtain ⟨j2,f2⟩:∃ j,(refW E N L (k+1)).cs.length=j:=⟨_,rfl⟩
   obtain ⟨j3,f3⟩:∃ j,(refW E N L (k+1)).hs.length=j:=⟨_,rfl⟩
   obtain ⟨j4,f4⟩:∃ j,(refW E N L (k+1)).ks.length=j:=⟨_,rfl⟩
   obtain ⟨j5,f5⟩:∃ j,(frame E (refW E N L k) (ofC L ((k:Int)+1))).ns.length=j:=⟨_,rfl⟩
   obtain ⟨fr',f6⟩:∃ j,(refW E N L (k+1)).fr=j:=⟨_,rfl⟩
   obtain ⟨nx',f7⟩:∃ j,(refW E N L (k+1)).nx=j:=⟨_,rfl⟩
   have hB:=HI.out.s.size
   have hI9:RfI w ((((((w9.setCell ⟨gw,0,none⟩ (.int .i64 fr')).setCell ⟨gw,1,none⟩ (.slice y1 j1 r1)).setCell ⟨gw,2,none⟩ (.slice y2 j2 r2)).setCell ⟨gw,3,none⟩ (.slice y3 j3 r3)).setCell ⟨gw,4,none⟩ (.slice y4 j4 r4)).setCell ⟨gw,5,none⟩ (.int .i64 nx')) gs gw gf f ⟨⟨(N:Int),q,C,R,s,.slice lo ln lc⟩,.slice ao n1 ac,.slice bo n2 bc,.slice none 0 0⟩ E N L vs (k+1):=by
    have hz:=H8.out.still h9
    have ty:=hz.ty
    have n1':gs≠gw:=by have:=HG7.out; omega
    have n2':w.heap.size+1≠gw:=by have:=HG7.out; omega
    rw [<- f1,<- f2,<- f3,<- f4]
    refine ⟨still_set6 (HI.out.s.trans h9) (by have:=HG7.out; omega) _ _ _ _ _ _, ?_,(((((((HI.out.z.still h9).other n2').other n2').other n2').other n2').other n2').other n2'),WdO.mk6 hz f6 f7 (q1.less hB) (q2.less hB) (q3.less hB) (q4.less hB),(HI.out.t.still h9).set6 ty (by decide) _ _ _ _ _ _,(HI.out.p.still h9).set6 ty (by decide) _ _ _ _ _ _,(HI.out.f.still h9).set ty _ _ _ _ _ _⟩
    have hq:=HI.out.q.still h9
    unfold Seb at hq ⊢
    rw [heap_setCell_other _ _ _ _ n1',heap_setCell_other _ _ _ _ n1',heap_setCell_other _ _ _ _ n1',heap_setCell_other _ _ _ _ n1',heap_setCell_other _ _ _ _ n1',heap_setCell_other _ _ _ _ n1']
    exact hq
   have HI9:=hid hI9
   have hN9:=H8.out.still h9
   rw [f1,f2,f3,f4,f5,f6,f7]
   clear hI9 q1 q2 q3 q4 hnv h9 f1 f2 f3 f4 f5 f6 f7 HStp hB eR c0 c1 c2 c3 c4 c5 c6 c7 cf d0 d1 d2 d3 d4 d5 df
   obtain ⟨d0,d1,d2,d3,d4,d5,df⟩:=hN9.cells
   clear hN9
   go_wp2_with fail
   go_roundw
   case rel=>exact ⟨k+1,by omega,by go_num,HI9⟩
   case measure=>first | (simp [intOf]; done) | (simp [intOf]; omega)
  ·have hge:¬ (k:Int)<(f:Int):=by omega
   obtain rfl:k=f:=by omega
   obtain ⟨d0,d1,d2,d3,d4,d5,df⟩:=h8.cells
   obtain ⟨z0,z1,z2,z3,z4,z5,zf⟩:=HI.out.z.cells
   have HEf:=hid (And.intro g1 (And.intro g2 (And.intro g3 (And.intro g4 (And.intro hgr.2 g6)))))
   have ty:=HI.out.z.ty
   clear h8 hv8 p1 p2 p3 p4 g1 g2 g3 g4 g6 hgr gl1 gl2 gl3 gl4
   go_wp2_with fail
   refine bodyPost_ret (Wdb.res2 (HI.out.z.put (k:Int) nx _ _ _ _) rfl _ _ rfl rfl) rfl (.yes HYes.out ⟨_,rfl, ?_,still_set6 HI.out.s (by omega) _ _ _ _ _ _⟩)
   exact ⟨_,_,_,_,by rw [HEf.out.2.2.2.2.1,HEf.out.2.2.2.2.2],HPp.out.1.set6 ty (by decide) _ _ _ _ _ _,HPp.out.2.1.set6 ty (by decide) _ _ _ _ _ _,HPp.out.2.2.1.set6 ty (by decide) _ _ _ _ _ _,HPp.out.2.2.2.set6 ty (by decide) _ _ _ _ _ _⟩
theorem ordr_of {N:Nat} {L:List Cm} (hr:∀ x∈L,Rgt N x) (hd:Dst L) (f:Int):Ordr (N:Int) f (ofC L f):=fun i hi=>by
 have hm:=fun k (hk:k<(ofC L f).length)=>ofC_mem.1 (List.getElem_mem hk)
 have hg:∀ k (hk:k<(ofC L f).length),(ofC L f).getD k ⟨0,0,0,0,0,0,0⟩=(ofC L f)[k]:=fun k hk=>by simp [List.getD,hk]
 rw [hg i hi]
 refine ⟨⟨by rw [Int.toNat_natCast]; exact hr _ (hm i hi).1,(hm i hi).2⟩,fun h0=>?_⟩
 rw [hg (i - 1) (by omega)]
 exact List.pairwise_iff_getElem.1 (ofC_sorted hd f) (i - 1) i (by omega) hi (by omega)
theorem stE_ref {N k:Nat} {v0:Int} {E:Env} {l:List Int} {L:List Cm} (hc:CfgP (N:Int) v0 E.st.length l) (hG:Ha.Good N E (refW E N L k)) (hf:(refW E N L k).fr=(k:Int)) (hk:k<=4096) (hr:∀ x∈L,Rgt N x) (hd:Dst L):stE (N:Int) v0 E l (refW E N L k) (ofC L ((k:Int)+1))=0 :=
 stE_zero hc ⟨by rw [Int.toNat_natCast]; exact hG,by omega,by omega⟩ (by omega) (by rw [hf]; exact ordr_of hr hd _)
theorem rev_take {L:List Cm} {i n K:Nat} (hn:L.length=n) (hi:i+K+1=n):L.reverse.take (i+1)=L.reverse.take i ++ [cm L K]:=by
 have h:i<L.reverse.length:=by simp; omega
 have hk:L.length - 1 - i=K:=by omega
 rw [List.take_add_one,List.getElem?_eq_getElem h,List.getElem_reverse,cm_get (by omega)]
 simp only [hk,Option.toList]
theorem wref_no (p q C R:Int) (s:ByteArray) (lo:Option Addr) (ln lc:Nat) (E:Env) (l:List Int) (w:World) (v:Int) (Q:Q13 w ⟨p,q,C,R,s,.slice lo ln lc⟩ v E.st E.sp) (hr:RdI w lo ln lc l) (hc:¬ CfgP p v E.st.length l) (fI:Int) (xo:Option Addr) (n xcp:Nat) :
  Calls Tryz.prog 9 #[.agg #[.int .i64 p,.int .u64 q,.int .i64 C,.int .i64 R,.string s,.slice lo ln lc],.int .i64 fI,.slice xo n xcp] w fun e w'=>e=.returned (.tuple #[.agg (wdcs 0 0 (.slice none 0 0) (.slice none 0 0) (.slice none 0 0) (.slice none 0 0)),.int .i64 130])/\Still w w':=by
 have A0:=Still.alloc w (.cells #[.int .i64 p,.int .u64 q,.int .i64 C,.int .i64 R,.string s,.slice lo ln lc] 27)
 have A1:=Still.alloc (w.alloc (.cells #[.int .i64 p,.int .u64 q,.int .i64 C,.int .i64 R,.string s,.slice lo ln lc] 27)) (.cells (wdcs 0 0 (.slice none 0 0) (.slice none 0 0) (.slice none 0 0) (.slice none 0 0)) 35)
 have p0:=(newCf_cb w ⟨p,q,C,R,s,.slice lo ln lc⟩).still A1
 have z0:=newWd_wb (w.alloc (.cells #[.int .i64 p,.int .u64 q,.int .i64 C,.int .i64 R,.string s,.slice lo ln lc] 27)) 0 0 (.slice none 0 0) (.slice none 0 0) (.slice none 0 0) (.slice none 0 0)
 rw [size_alloc] at z0
 have HS0:Hid (Still w ((w.alloc (.cells #[.int .i64 p,.int .u64 q,.int .i64 C,.int .i64 R,.string s,.slice lo ln lc] 27)).alloc (.cells (wdcs 0 0 (.slice none 0 0) (.slice none 0 0) (.slice none 0 0) (.slice none 0 0)) 35))):=hid (A0.trans A1)
 have HP0:Hid (Cfb ((w.alloc (.cells #[.int .i64 p,.int .u64 q,.int .i64 C,.int .i64 R,.string s,.slice lo ln lc] 27)).alloc (.cells (wdcs 0 0 (.slice none 0 0) (.slice none 0 0) (.slice none 0 0) (.slice none 0 0)) 35)) w.heap.size ⟨p,q,C,R,s,.slice lo ln lc⟩):=hid p0
 have HZ0:Hid (Wdb ((w.alloc (.cells #[.int .i64 p,.int .u64 q,.int .i64 C,.int .i64 R,.string s,.slice lo ln lc] 27)).alloc (.cells (wdcs 0 0 (.slice none 0 0) (.slice none 0 0) (.slice none 0 0) (.slice none 0 0)) 35)) (w.heap.size+1) 0 0 (.slice none 0 0) (.slice none 0 0) (.slice none 0 0) (.slice none 0 0)):=hid z0
 have HOp:=hid (open_no p q C R s lo ln lc E l ((w.alloc (.cells #[.int .i64 p,.int .u64 q,.int .i64 C,.int .i64 R,.string s,.slice lo ln lc] 27)).alloc (.cells (wdcs 0 0 (.slice none 0 0) (.slice none 0 0) (.slice none 0 0) (.slice none 0 0)) 35)) v (Q.still (A0.trans A1)) (hr.still (A0.trans A1)) hc)
 clear Q hr hc A0 A1 p0 z0
 obtain ⟨W0,eW0⟩:∃ X,((w.alloc (.cells #[.int .i64 p,.int .u64 q,.int .i64 C,.int .i64 R,.string s,.slice lo ln lc] 27)).alloc (.cells (wdcs 0 0 (.slice none 0 0) (.slice none 0 0) (.slice none 0 0) (.slice none 0 0)) 35))=X:=⟨_,rfl⟩
 rw [eW0] at HS0 HP0 HZ0 HOp
 obtain ⟨c0,c1,c2,c3,c4,c5,cf⟩:=HP0.out.cells
 go_enter Tryz.func9,Tryz.ntmps9
 go_wp2_with fail
 refine HOp.out.mono ?_
 rintro e w1 ⟨rfl,h1⟩
 have A2:=Still.alloc w1 (.cells #[.int .i64 0,.int .u64 0,.int .i64 0,.int .i64 0,.string ByteArray.empty,.slice none 0 0,.slice none 0 0,.slice none 0 0] 68)
 have HS1:Hid (Still w (w1.alloc (.cells #[.int .i64 0,.int .u64 0,.int .i64 0,.int .i64 0,.string ByteArray.empty,.slice none 0 0,.slice none 0 0,.slice none 0 0] 68))):=hid ((HS0.out.trans h1).trans A2)
 have HZ1:Hid (Wdb (w1.alloc (.cells #[.int .i64 0,.int .u64 0,.int .i64 0,.int .i64 0,.string ByteArray.empty,.slice none 0 0,.slice none 0 0,.slice none 0 0] 68)) (w.heap.size+1) 0 0 (.slice none 0 0) (.slice none 0 0) (.slice none 0 0) (.slice none 0 0)):=hid ((HZ0.out.still h1).still A2)
 clear eW0 HOp c0 c1 c2 c3 c4 c5 cf h1 A2 HS0 HP0 HZ0
 obtain ⟨z0,z1,z2,z3,z4,z5,zf⟩:=HZ1.out.cells
 go_wp2_with fail
 refine bodyPost_ret (Wdb.res2 (HZ1.out.put 0 0 _ _ _ _) rfl _ _ rfl rfl) rfl ⟨rfl,still_set6 HS1.out (by omega) _ _ _ _ _ _⟩
theorem anew_no (p q C R:Int) (s:ByteArray) (lo:Option Addr) (ln lc:Nat) (l:List Int) (a:Int) (v0:Int) (hv0:ChkV C R s v0) (hc:¬ CfgP p v0 (stV C s v0).length l) (xo:Option Addr) (n xcp:Nat) (w:World) (ht:Tab w) (hd:DTab w) (hr:RdI w lo ln lc l) :
  Calls Tryz.prog 4 #[.agg #[.int .i64 p,.int .u64 q,.int .i64 C,.int .i64 R,.string s,.slice lo ln lc],.int .i64 a,.slice xo n xcp] w fun e w'=>e=.returned (.bool true)/\Still w w':=by
 have HN1:=hid (fun u (hu:Still w u)=>wref_no p q C R s lo ln lc (envM q C R s v0) l u v0 (q13_of ⟨p,q,C,R,s,.slice lo ln lc⟩ v0 hv0 u) (hr.still hu) hc a xo n xcp)
 have A0:=Still.alloc w (.cells #[.int .i64 p,.int .u64 q,.int .i64 C,.int .i64 R,.string s,.slice lo ln lc] 27)
 have HS0:Hid (Still w (w.alloc (.cells #[.int .i64 p,.int .u64 q,.int .i64 C,.int .i64 R,.string s,.slice lo ln lc] 27))):=hid A0
 have HP0:Hid (Cfb (w.alloc (.cells #[.int .i64 p,.int .u64 q,.int .i64 C,.int .i64 R,.string s,.slice lo ln lc] 27)) w.heap.size ⟨p,q,C,R,s,.slice lo ln lc⟩):=hid (newCf_cb w ⟨p,q,C,R,s,.slice lo ln lc⟩)
 have HT:=hid ht
 have HDt:=hid hd
 clear A0 hr hc hv0 ht hd
 go_enter Tryz.func4,Tryz.ntmps4
 go_wp2_with fail
 refine (awake13_any _ (HT.out.still HS0.out) (HDt.out.still HS0.out)).mono ?_
 rintro e w1 ⟨rfl,h1⟩
 have HS1:=hid (HS0.out.trans h1)
 have HP1:=hid (HP0.out.still h1)
 clear h1 HS0 HP0
 obtain ⟨c0,c1,c2,c3,c4,c5,cf⟩:=HP1.out.cells
 dsimp only at c0 c1 c2 c3 c4 c5
 go_wp2_with fail
 refine (HN1.out w1 HS1.out).mono ?_
 rintro e w2 ⟨rfl,h2⟩
 have HS2:=hid (HS1.out.trans (h2.trans (Still.alloc w2 (.cells (wdcs 0 0 (.slice none 0 0) (.slice none 0 0) (.slice none 0 0) (.slice none 0 0)) 35))))
 clear c0 c1 c2 c3 c4 c5 cf h2 HS1 HP1
 go_wp2_with fail
 go_ret
 exact ⟨rfl,HS2.out⟩
theorem anew_yes (N : Nat) (q C R : Int) (s : ByteArray) (lo : Option Addr) (ln lc : Nat) (l : List Int) (a : Int) (v0 : Int) (hv0 : ChkV C R s v0) (hc : CfgP (N : Int) v0 (stV C s v0).length l) (hz : s.size <= 281474976710656) (xo : Option Addr) (n xcp : Nat) (L : List Cm) (g47 : 56 * n <= 140737488351232) (hcx : xo = none -> xcp = 0) (w : World) (ht : Tab w) (hd : DTab w) (hr : RdI w lo ln lc l) (hx : RdG KX w xo n L) :
    Calls Tryz.prog 4 #[.agg #[.int .i64 (N:Int),.int .u64 q,.int .i64 C,.int .i64 R,.string s,.slice lo ln lc],.int .i64 a,.slice xo n xcp] w fun e w'=>e=.returned (.bool true)/\Still w w':=by
  have h16:=spV_few hv0
  have hN6:N<=6:=by have:=hc.2.1; omega
  have HR1:=hid (fun u (hu:Still w u) fI xo m xcp M (hx:RdG KX u xo m M) (hcx:xo=none->xcp=0) (h47:56*m<=140737488351232)=>wref_any N q C R s lo ln lc (envM q C R s v0) l u v0 (q13_of ⟨(N:Int),q,C,R,s,.slice lo ln lc⟩ v0 hv0 u) (p13_of ⟨(N:Int),q,C,R,s,.slice lo ln lc⟩ hz _ _ u (ht.still hu) (hd.still hu)) (hr.still hu) hc h16 fI xo m xcp M hx hcx h47)
  have HT1:=hid (fun u (hu:Still w u) W v (hv:RdW u v W) xo n xcp cs (hx:RdG KX u xo n cs) (h47:(n+300)*24<=140737488355328)=>wStep_any N q C R s lo ln lc (envM q C R s v0) l u v0 (q13_of ⟨(N:Int),q,C,R,s,.slice lo ln lc⟩ v0 hv0 u) (p13_of ⟨(N:Int),q,C,R,s,.slice lo ln lc⟩ hz _ _ u (ht.still hu) (hd.still hu)) (hr.still hu) hc h16 W v hv xo n xcp cs hx h47)
  have HSo:Hid (∀ k:Nat,k<=4096->(∀ x∈L,Rgt N x)->Dst L->stE (N:Int) v0 (envM q C R s v0) l (refW (envM q C R s v0) N L k) (ofC L ((k:Int)+1))=0/\Ha.Good N (envM q C R s v0) (refW (envM q C R s v0) N L k)/\(refW (envM q C R s v0) N L k).fr=(k:Int)):=hid (fun k hk h1 h2=>by
    have hg:=good_ref (E:=envM q C R s v0) hN6 (good_nw0 h16) h1 k
    exact ⟨stE_ref hc hg.1 hg.2 hk h1 h2,hg⟩)
  obtain ⟨E,eE⟩:∃ E,envM q C R s v0=E:=⟨_,rfl⟩
  rw [eE] at HR1 HT1 HSo
  clear eE
  have HT:=hid ht
  have HDt:=hid hd
  have HX:=hid hx
  clear hv0 hc hz h16 hr ht hd hx
  have A0:=Still.alloc w (.cells #[.int .i64 (N:Int),.int .u64 q,.int .i64 C,.int .i64 R,.string s,.slice lo ln lc] 27)
  have HS0:Hid (Still w (w.alloc (.cells #[.int .i64 (N:Int),.int .u64 q,.int .i64 C,.int .i64 R,.string s,.slice lo ln lc] 27))):=hid A0
  have HP0:Hid (Cfb (w.alloc (.cells #[.int .i64 (N:Int),.int .u64 q,.int .i64 C,.int .i64 R,.string s,.slice lo ln lc] 27)) w.heap.size ⟨(N:Int),q,C,R,s,.slice lo ln lc⟩):=hid (newCf_cb w ⟨(N:Int),q,C,R,s,.slice lo ln lc⟩)
  clear A0
  go_enter Tryz.func4,Tryz.ntmps4
  go_wp2_with fail
  refine (awake13_any _ (HT.out.still HS0.out) (HDt.out.still HS0.out)).mono ?_
  rintro e w1 ⟨rfl,h1⟩
  have HS1:=hid (HS0.out.trans h1)
  have HP1:=hid (HP0.out.still h1)
  clear h1 HS0 HP0
  obtain ⟨c0,c1,c2,c3,c4,c5,cf⟩:=HP1.out.cells
  dsimp only at c0 c1 c2 c3 c4 c5
  go_wp2_with fail
  by_cases hok:RefOk N a L
  rotate_left
  · refine (HR1.out w1 HS1.out a xo n xcp L (HX.out.still HS1.out) hcx g47).mono ?_
    rintro e w2 hq
    obtain ⟨k,hk,rfl,h2⟩:=hq.2 hok
    have hkb:(k != 0)=true:=by simpa using hk
    have HS2:=hid (HS1.out.trans (h2.trans (Still.alloc w2 (.cells (wdcs 0 0 (.slice none 0 0) (.slice none 0 0) (.slice none 0 0) (.slice none 0 0)) 35))))
    clear c0 c1 c2 c3 c4 c5 cf h2 HS1 HP1 hk hok hq
    go_wp2_with fail
    go_ret
    exact ⟨rfl,HS2.out⟩
  obtain ⟨f,rfl⟩:∃ f:Nat,a=(f:Int):=⟨a.toNat,by have:=hok.1; omega⟩
  have hf4:f<=4096:=by have:=hok.2.1; omega
  have HOk:=hid hok.2.2
  have HRf:=hid ((HR1.out w1 HS1.out (f:Int) xo n xcp L (HX.out.still HS1.out) hcx g47).mono fun e w' h=>h.1 hok)
  clear hok
  refine HRf.out.mono ?_
  rintro e w2 ⟨u,rfl,hW,h2⟩
  rw [Int.toNat_natCast] at hW
  obtain ⟨Wn,eWn⟩:∃ W,refW E N L f=W:=⟨_,rfl⟩
  have HWe:=hid eWn
  have HGf:=hid (by have h:=HSo.out f hf4 HOk.out.1 HOk.out.2; rw [eWn] at h; exact h)
  rw [eWn] at hW
  clear eWn HRf
  obtain ⟨a',b,c,d,rfl,q1,q2,q3,q4⟩:=hW
  obtain ⟨z2a,c2a,rfl,_⟩:=q1.slice
  obtain ⟨z2b,c2b,rfl,_⟩:=q2.slice
  obtain ⟨z2c,c2c,rfl,_⟩:=q3.slice
  obtain ⟨z2d,c2d,rfl,_⟩:=q4.slice
  obtain ⟨k1,e1⟩:∃ k,Wn.ms.length=k:=⟨_,rfl⟩
  obtain ⟨k2,e2⟩:∃ k,Wn.cs.length=k:=⟨_,rfl⟩
  obtain ⟨k3,e3⟩:∃ k,Wn.hs.length=k:=⟨_,rfl⟩
  obtain ⟨k4,e4⟩:∃ k,Wn.ks.length=k:=⟨_,rfl⟩
  obtain ⟨fr,e5⟩:∃ k,Wn.fr=k:=⟨_,rfl⟩
  obtain ⟨nx,e6⟩:∃ k,Wn.nx=k:=⟨_,rfl⟩
  have HE:=hid (And.intro e5 e6)
  rw [e1,e2,e3,e4,e5,e6]
  rw [e1] at q1
  rw [e2] at q2
  rw [e3] at q3
  rw [e4] at q4
  clear e1 e2 e3 e4 e5 e6
  have A2:=Still.alloc w2 (.cells (wdcs fr nx (.slice z2a k1 c2a) (.slice z2b k2 c2b) (.slice z2c k3 c2c) (.slice z2d k4 c2d)) 35)
  have hs3:=h2.trans A2
  have HS3:=hid (HS1.out.trans hs3)
  have HP3:=hid (HP1.out.still hs3)
  have HB1:=hid HS1.out.size
  have HW8:Hid (WdO (w2.alloc (.cells (wdcs fr nx (.slice z2a k1 c2a) (.slice z2b k2 c2b) (.slice z2c k3 c2c) (.slice z2d k4 c2d)) 35)) w.heap.size w2.heap.size Wn):=hid (by
    refine ⟨_,_,_,_, ?_,(q1.still A2).less HB1.out,(q2.still A2).less HB1.out,(q3.still A2).less HB1.out,(q4.still A2).less HB1.out⟩
    rw [HE.out.1,HE.out.2]
    exact newWd_wb w2 fr nx _ _ _ _)
  have HL3:=hid (show w.heap.size<w2.heap.size from Nat.lt_of_lt_of_le (block_lt HP1.out) h2.size)
  obtain ⟨W5,eW5⟩:∃ X,w2.alloc (.cells (wdcs fr nx (.slice z2a k1 c2a) (.slice z2b k2 c2b) (.slice z2c k3 c2c) (.slice z2d k4 c2d)) 35)=X:=⟨_,rfl⟩
  rw [eW5] at HS3 HP3 HW8
  clear q1 q2 q3 q4 A2 hs3 h2 c0 c1 c2 c3 c4 c5 cf HS1 HP1
  obtain ⟨b3,eb3⟩:∃ k,w.heap.size=k:=⟨_,rfl⟩
  obtain ⟨b8,eb8⟩:∃ k,w2.heap.size=k:=⟨_,rfl⟩
  rw [eb8] at HW8 HL3
  rw [eb3] at HP3
  have HBs:=hid (show b3<b8/\w.heap.size=b3 by have:=HL3.out; omega)
  by_cases hlt:(f:Int)<4096
  rotate_left
  · have hge:(4096:Int)<=(f:Int):=by omega
    go_wp2_with fail
    clear eW5 eb3 eb8
    go_ret
    exact ⟨rfl,HS3.out⟩
  have hge:¬ (4096:Int)<=(f:Int):=by omega
  have hwn:IntKind.i64.wrap ((n:Int) - 1)=(n:Int) - 1:=by rw [IntKind.wrap_i64] <;> omega
  go_wp2_with fail
  clear eW5 eb3 eb8 hwn
  go_loopw [10,11] (fun u10 u11 wr=>∃ i:Nat,i<=n/\u11=.int .i64 ((n:Int) - 1 - (i:Int))/\OwG KX xcT wr W5.heap.size u10 (L.reverse.take i)/\Still W5 wr) (fun _ u _=>(intOf u+1).toNat)
  case atStart=>exact ⟨0,by omega,by go_num,OwG.nil _ _,Fr.refl _ _⟩
  case round =>
    obtain ⟨i,hi,rfl,ho,hs5⟩:=hrel
    by_cases hin:i<n
    · obtain ⟨K,eK⟩:∃ K:Nat,(n:Int) - 1 - (i:Int)=(K:Int):=⟨n - 1 - i,by omega⟩
      rw [eK]
      have hK0:(0:Int)<=(K:Int):=by omega
      have hKn:K<n:=by omega
      have hKn':(K:Int)<(n:Int):=by omega
      have hr1:=HX.out.still (HS3.out.trans hs5)
      obtain ⟨B,o,rfl⟩:=hr1.at (by omega)
      obtain ⟨c0,c1,c2,c3,c4,c5,c6⟩:=rdX hr1 hKn
      have HTk:=hid (rev_take (L:=L) (i:=i) (K:=K) HX.out.1 (by omega))
      obtain ⟨x,ex⟩:∃ x,cm L K=x:=⟨_,rfl⟩
      rw [ex] at HTk c0 c1 c2 c3 c4 c5 c6
      have HLl:Hid ((L.reverse.take i).length<=n):=hid (by simp; omega)
      have HO:=hid ho
      have HI:=hid hs5
      have HY:=hid (newX_xb wr x)
      have HEk:=hid eK
      have hwK:IntKind.i64.wrap ((K:Int) - 1)=(K:Int) - 1:=by rw [IntKind.wrap_i64] <;> omega
      clear ex ho hs5 hr1 eK
      go_wp2_with (
        at_builtin
        refine wpList_appH KX _ rfl _ _ 28 rfl Tryz.underlying28 56 infoX W5.heap.size wr.heap.size _ (L.reverse.take i) x rfl rfl (HO.out.still (Still.alloc wr _)) HY.out (by have:=HLl.out; omega) (by have:=HLl.out; omega) (by have:=HI.out.size; simp; omega) ?_
        intro v' w2 ho2 hf2
        have HI2:=hid (still_appG (HI.out.trans (Still.alloc wr _)) (HO.out.still (Still.alloc wr _)) hf2 (Nat.le_refl _))
        rw [<- HTk.out] at ho2
        have HO2:=hid ho2
        clear ho2 hf2 HO HI HY c0 c1 c2 c3 c4 c5 c6)
      go_roundw
      case rel=>exact ⟨i+1,by omega,by have:=HEk.out; go_num,HO2.out,HI2.out⟩
      case measure=>first | (simp [intOf]; done) | (simp [intOf]; omega)
    · have hneg:¬ (0:Int)<=(n:Int) - 1 - (i:Int):=by omega
      obtain rfl:i=n:=by omega
      have e1:L.reverse.take i=L.reverse:=List.take_of_length_le (by simp [HX.out.1])
      rw [e1] at ho
      have hrl:L.reverse.length=i:=by rw [List.length_reverse]; exact HX.out.1
      obtain ⟨tso,tc,ev,htc⟩:∃ tso tc,u10=.slice tso i tc/\(tso=none->tc=0):=by
        rcases ho.2 with ⟨h1,h2⟩ | ⟨g,cap,cur,h1,_⟩
        · exact ⟨none,0,by rw [h1,<- hrl,h2],fun _=>rfl⟩
        · exact ⟨_,cap,by rw [h1,hrl],fun h=>by cases h⟩
      subst ev
      have hrd:=owG_rd ho (by omega)
      rw [hrl] at hrd
      have hsw:=HS3.out.trans hs5
      have HRf:=hid ((HR1.out wr hsw ((f:Int)+1) tso i tc L.reverse hrd htc g47).mono fun e w' h=>h.1 ⟨by omega,by omega,fun x hx=>HOk.out.1 x (List.mem_reverse.1 hx),dst_perm (List.reverse_perm L).symm HOk.out.2⟩)
      have hp3:=HP3.out.still hs5
      have ho8:=HW8.out.still hs5
      obtain ⟨c0,c1,c2,c3,c4,c5,cf⟩:=hp3.cells
      dsimp only at c0 c1 c2 c3 c4 c5
      have hwf:IntKind.i64.wrap ((f:Int)+1)=(f:Int)+1:=by rw [IntKind.wrap_i64] <;> omega
      have HSw:=hid hsw
      have HPw:=hid hp3
      have HOw:=hid ho8
      clear ho hs5 e1 hrl htc hrd hsw hp3 ho8 HS3 HP3 HW8 hneg hi hin
      go_wp2_with fail
      refine HRf.out.mono ?_
      rintro e w4 ⟨u,rfl,hW,h4⟩
      have eT:((f:Int)+1).toNat=f+1:=by omega
      rw [eT,<- refW_any (List.reverse_perm L).symm HOk.out.2] at hW
      obtain ⟨Wx,eWx⟩:∃ X,refW E N L (f+1)=X:=⟨_,rfl⟩
      have HWx:=hid eWx
      rw [eWx] at hW
      clear eWx eT HRf
      obtain ⟨a',b,c,d,rfl,q1,q2,q3,q4⟩:=hW
      obtain ⟨z2a,c2a,rfl,_⟩:=q1.slice
      obtain ⟨z2b,c2b,rfl,_⟩:=q2.slice
      obtain ⟨z2c,c2c,rfl,_⟩:=q3.slice
      obtain ⟨z2d,c2d,rfl,_⟩:=q4.slice
      obtain ⟨k1,e1⟩:∃ k,Wx.ms.length=k:=⟨_,rfl⟩
      obtain ⟨k2,e2⟩:∃ k,Wx.cs.length=k:=⟨_,rfl⟩
      obtain ⟨k3,e3⟩:∃ k,Wx.hs.length=k:=⟨_,rfl⟩
      obtain ⟨k4,e4⟩:∃ k,Wx.ks.length=k:=⟨_,rfl⟩
      obtain ⟨fr,e5⟩:∃ k,Wx.fr=k:=⟨_,rfl⟩
      obtain ⟨nx,e6⟩:∃ k,Wx.nx=k:=⟨_,rfl⟩
      have HEx:=hid (And.intro e5 e6)
      rw [e1,e2,e3,e4,e5,e6]
      rw [e1] at q1
      rw [e2] at q2
      rw [e3] at q3
      rw [e4] at q4
      have HEk:=hid (And.intro e1 (And.intro e2 (And.intro e3 e4)))
      clear e1 e2 e3 e4 e5 e6
      have A4:=Still.alloc w4 (.cells (wdcs fr nx (.slice z2a k1 c2a) (.slice z2b k2 c2b) (.slice z2c k3 c2c) (.slice z2d k4 c2d)) 35)
      have HX12:Hid (WdO (w4.alloc (.cells (wdcs fr nx (.slice z2a k1 c2a) (.slice z2b k2 c2b) (.slice z2c k3 c2c) (.slice z2d k4 c2d)) 35)) w.heap.size w4.heap.size Wx):=hid (by
        have hB:=HSw.out.size
        refine ⟨_,_,_,_, ?_,(q1.still A4).less hB,(q2.still A4).less hB,(q3.still A4).less hB,(q4.still A4).less hB⟩
        rw [HEx.out.1,HEx.out.2]
        exact newWd_wb w4 fr nx _ _ _ _)
      have hs6:=h4.trans A4
      have hs:=HSw.out.trans hs6
      have hp3:=HPw.out.still hs6
      have ho8:=HOw.out.still hs6
      obtain ⟨w5,ew5⟩:∃ X,w4.alloc (.cells (wdcs fr nx (.slice z2a k1 c2a) (.slice z2b k2 c2b) (.slice z2c k3 c2c) (.slice z2d k4 c2d)) 35)=X:=⟨_,rfl⟩
      rw [ew5] at hs6 hs hp3 ho8 HX12
      obtain ⟨b9,eb9⟩:∃ k,w4.heap.size=k:=⟨_,rfl⟩
      rw [eb9] at HX12
      clear q1 q2 q3 q4 A4 hs6 h4 c0 c1 c2 c3 c4 c5 cf HSw HPw HOw
      have HS:=hid hs
      obtain ⟨hse,hG,hfr⟩:=HGf.out
      obtain ⟨gl1,gl2,gl3,gl4⟩:=good_len hG hN6
      have HO8:=hid ho8
      obtain ⟨b8a,b8b,b8c,b8d,hb8,p1,p2,p3,p4⟩:=ho8
      have hv8:=OwW.rd (show OwW w5 w.heap.size _ Wn from ⟨b8a,b8b,b8c,b8d,rfl,p1,p2,p3,p4⟩) gl1 gl2 gl3 gl4
      obtain ⟨x1a,x1b,rfl,_⟩:=p1.slice
      obtain ⟨x2a,x2b,rfl,_⟩:=p2.slice
      obtain ⟨x3a,x3b,rfl,_⟩:=p3.slice
      obtain ⟨x4a,x4b,rfl,_⟩:=p4.slice
      obtain ⟨m1,em1⟩:∃ k,Wn.ms.length=k:=⟨_,rfl⟩
      obtain ⟨m2,em2⟩:∃ k,Wn.cs.length=k:=⟨_,rfl⟩
      obtain ⟨m3,em3⟩:∃ k,Wn.hs.length=k:=⟨_,rfl⟩
      obtain ⟨m4,em4⟩:∃ k,Wn.ks.length=k:=⟨_,rfl⟩
      obtain ⟨nxw,enx⟩:∃ k,Wn.nx=k:=⟨_,rfl⟩
      rw [em1,em2,em3,em4,enx,hfr] at hv8 hb8
      have hcl:(ofC L ((f:Int)+1)).length<=i:=by
        rw [(ofC_perm L _).length_eq,<- HX.out.1]
        exact List.length_filter_le _ _
      obtain ⟨G,eG⟩:∃ G,frame E Wn (ofC L ((f:Int)+1))=G:=⟨_,rfl⟩
      have HGx:Hid (Wx=G.w/\Ha.Good N E G.w):=hid (by
        have h:Wx=G.w:=by rw [<- HWx.out,<- eG,<- HWe.out]; rfl
        have hg:=HSo.out (f+1) (by omega) HOk.out.1 HOk.out.2
        rw [HWx.out,h] at hg
        exact ⟨h,hg.2.1⟩)
      obtain ⟨cs,ecs⟩:∃ k,ofC L ((f:Int)+1)=k:=⟨_,rfl⟩
      have HOf:=hid (fun u (hu:Still w5 u)=>rof_any L ((f:Int)+1) xo i xcp (by omega) u (HX.out.still (hs.trans hu)))
      rw [ecs] at HOf hcl hse eG
      obtain ⟨m5,em5⟩:∃ k,cs.length=k:=⟨_,rfl⟩
      rw [em5] at hcl
      have HT1':=hid (fun u (hu:Still w5 u) xo xcp (hx:RdG KX u xo m5 cs)=>HT1.out u (hs.trans hu) Wn _ (hv8.still hu) xo m5 xcp cs hx (by omega))
      rw [hse] at HT1'
      have HM5:=hid em5
      have H48:Hid (cs.length<=281474976710656):=hid (by omega)
      have HP3':=hid hp3
      have HCe:=hid (fun u (hu:Still w5 u)=>(hp3.still hu).cells)
      have HBe:=hid (fun u (hu:Still w5 u)=>(hb8.still hu).cells)
      have HK8:Hid (b8<w5.heap.size/\b3<w5.heap.size/\w.heap.size<=w5.heap.size):=hid ⟨block_lt hb8,block_lt hp3,hs.size⟩
      have HTy:=hid (fun u (hu:Still w5 u) xo xcp (hx:RdG KX u xo m5 cs)=>(HT1'.out u hu xo xcp hx).mono fun e w' h=>fa_q (w:=w) h (Nat.le_trans HK8.out.2.2 hu.size))
      rw [eG] at HTy
      have n8:w5.heap.size≠b8:=by have:=HK8.out; omega
      have n3:w5.heap.size≠b3:=by have:=HK8.out; omega
      obtain ⟨d0,d1,d2,d3,d4,d5,df⟩:=HBe.out w5 (Fr.refl _ _)
      obtain ⟨c0,c1,c2,c3,c4,c5,cf⟩:=HCe.out w5 (Fr.refl _ _)
      dsimp only at c0 c1 c2 c3 c4 c5
      clear hv8 hp3 hb8 p1 p2 p3 p4 em1 em2 em3 em4 em5 enx ecs hs hG hfr gl1 gl2 gl3 gl4 hcl hse HSo HT1 HR1 HT1' eG HWx HWe HGf
      go_upto_region 11 with fail
      clear ew5 eb9
      go_cut [14,15,16] (fun v14 v15 v16 wx=>∃ W7 b12 zn nl cn,W7=wx/\v14=.pointer (some ⟨b12,0,none⟩)/\v15=.slice zn nl cn/\v16=.int .i64 0/\Still w5 W7/\FaR w W7 b3 b8 b12 ⟨(N:Int),q,C,R,s,.slice lo ln lc⟩ Wn G (.slice zn nl cn))
      case first =>
        go_region_held3 (fun w'=>w'.cell? ⟨b3,0,none⟩=some (.int .i64 (N:Int))/\w'.cell? ⟨b3,1,none⟩=some (.int .u64 q)/\w'.cell? ⟨b3,2,none⟩=some (.int .i64 C)/\w'.cell? ⟨b3,3,none⟩=some (.int .i64 R)/\w'.cell? ⟨b3,4,none⟩=some (.string s)/\w'.cell? ⟨b3,5,none⟩=some (.slice lo ln lc)/\w'.cell? ⟨b8,0,none⟩=some (.int .i64 (f:Int))/\w'.cell? ⟨b8,1,none⟩=some (.slice x1a m1 x1b)/\w'.cell? ⟨b8,2,none⟩=some (.slice x2a m2 x2b)/\w'.cell? ⟨b8,3,none⟩=some (.slice x3a m3 x3b)/\w'.cell? ⟨b8,4,none⟩=some (.slice x4a m4 x4b)/\w'.cell? ⟨b8,5,none⟩=some (.int .i64 nxw)) (go_keep)
          (first
            | (go_at_call 8
               refine (HOf.out _ (by repeat (first | exact Fr.refl _ _ | refine Fr.drew ?_ | refine Fr.alloc ?_ _))).mono ?_
               rintro e x1 ⟨v5,rfl,ox,g1⟩
               obtain ⟨xo5,xc5,hv5,_⟩:=ox.slice
               rw [HM5.out] at hv5
               subst hv5
               have HX1:Hid (Still w5 x1):=hid (by refine Still.trans ?_ g1; repeat (first | exact Fr.refl _ _ | refine Fr.drew ?_ | refine Fr.alloc ?_ _))
               have HX5:Hid (RdG KX x1 xo5 m5 cs):=hid (by have h:=owG_rd ox H48.out; rw [HM5.out] at h; exact h)
               obtain ⟨e0,e1,e2,e3,e4,e5,_⟩:=HCe.out x1 HX1.out
               (try dsimp only at e0 e1 e2 e3 e4 e5)
               obtain ⟨u0,u1,u2,u3,u4,u5,_⟩:=HBe.out x1 HX1.out
               have m8:x1.heap.size≠b8:=by have:=HX1.out.size; have:=HK8.out; omega
               have m3':x1.heap.size≠b3:=by have:=HX1.out.size; have:=HK8.out; omega
               try (have z1:Wdb x1 w5.heap.size 0 0 (.slice none 0 0) (.slice none 0 0) (.slice none 0 0) (.slice none 0 0):=Fr.kept_still (Still.undrew g1) (heap_alloc_new w5 _); obtain ⟨y0,y1,y2,y3,y4,y5,yf⟩:=z1.cells)
               clear ox g1)
            | (go_at_call 7
               refine (HTy.out _ (by repeat (first | exact HX1.out | refine Fr.drew ?_ | refine Fr.alloc ?_ _)) xo5 xc5 (HX5.out.still (by repeat (first | exact Fr.refl _ _ | refine Fr.drew ?_ | refine Fr.alloc ?_ _)))).mono ?_
               rintro e x2 ⟨fr1,nx1,za,l1,ca,zb,l2,cb,zc,l3,cc,zd,l4,cd,zn,nl,cn,rfl,hW6,g2⟩
               have HX2:Hid (Still w5 x2):=hid (by refine Still.trans ?_ g2; repeat (first | exact HX1.out | refine Fr.drew ?_ | refine Fr.alloc ?_ _))
               obtain ⟨e0,e1,e2,e3,e4,e5,_⟩:=HCe.out x2 HX2.out
               (try dsimp only at e0 e1 e2 e3 e4 e5)
               obtain ⟨u0,u1,u2,u3,u4,u5,_⟩:=HBe.out x2 HX2.out
               have n8':x2.heap.size≠b8:=by have:=HX2.out.size; have:=HK8.out; omega
               have n3':x2.heap.size≠b3:=by have:=HX2.out.size; have:=HK8.out; omega
               try (have z2:=z1.still g2; obtain ⟨y0,y1,y2,y3,y4,y5,yf⟩:=z2.cells)
               try (have z3:Wdb x2 x1.heap.size 0 0 (.slice none 0 0) (.slice none 0 0) (.slice none 0 0) (.slice none 0 0):=Fr.kept_still g2 (heap_alloc_new x1 _); obtain ⟨v0,v1,v2,v3,v4,v5,vf⟩:=z3.cells)
               have HW6:=hid hW6
               clear hW6
               clear g2))
        · go_wp2_with fail
          go_meet
          exact ⟨_,x2.heap.size,zn,nl,cn,rfl,rfl,rfl,rfl,HX2.out.trans (Still.alloc x2 _),FaR.late (HS.out.trans HX2.out) (HW6.out trivial).1 (HW6.out trivial).2 (HO8.out.still HX2.out) (HP3'.out.still HX2.out)⟩
        · go_wp2_with fail
          go_meet
          exact ⟨_,x1.heap.size,zn,nl,cn,rfl,rfl,rfl,rfl,still_set6 HX2.out HX1.out.size _ _ _ _ _ _,FaR.early (HS.out.trans HX2.out) (HW6.out trivial).1 (HW6.out trivial).2 (HO8.out.still HX2.out) (HP3'.out.still HX2.out) z3 (Nat.le_trans HS.out.size HX1.out.size) (by have:=HK8.out; have:=HX1.out.size; omega)⟩
        · go_wp2_with fail
          go_meet
          exact ⟨_,w5.heap.size,zn,nl,cn,rfl,rfl,rfl,rfl,still_set6 HX2.out (Nat.le_refl _) _ _ _ _ _ _,FaR.early (HS.out.trans HX2.out) (HW6.out trivial).1 (HW6.out trivial).2 (HO8.out.still HX2.out) (HP3'.out.still HX2.out) z2 HS.out.size (by have:=HK8.out; omega)⟩
      case rest =>
        obtain ⟨W7,b12,zn,nl,cn,rfl,rfl,rfl,rfl,hsx,hR⟩:=hcut
        obtain ⟨gl1,gl2,gl3,gl4⟩:=good_len HGx.out.2 hN6
        have hx9:=HX12.out.still hsx
        rw [HGx.out.1] at hx9
        obtain ⟨a9,b9',c9,d9,h9,t1,t2,t3,t4⟩:=hx9
        obtain ⟨xa,xb,xc,xd,h12,r1,r2,r3,r4⟩:=hR.x
        have hv9:=OwW.rd (show OwW W7 w.heap.size _ G.w from ⟨a9,b9',c9,d9,rfl,t1,t2,t3,t4⟩) gl1 gl2 gl3 gl4
        have hv12:=OwW.rd (show OwW W7 w.heap.size _ G.w from ⟨xa,xb,xc,xd,rfl,r1,r2,r3,r4⟩) gl1 gl2 gl3 gl4
        obtain ⟨za,ca,rfl,_⟩:=r1.slice
        obtain ⟨zb,cb,rfl,_⟩:=r2.slice
        obtain ⟨zc,cc,rfl,_⟩:=r3.slice
        obtain ⟨zd,cd,rfl,_⟩:=r4.slice
        obtain ⟨ya,ka,rfl,_⟩:=t1.slice
        obtain ⟨yb,kb,rfl,_⟩:=t2.slice
        obtain ⟨yc,kc,rfl,_⟩:=t3.slice
        obtain ⟨yd,kd,rfl,_⟩:=t4.slice
        obtain ⟨j1,ej1⟩:∃ k,G.w.ms.length=k:=⟨_,rfl⟩
        obtain ⟨j2,ej2⟩:∃ k,G.w.cs.length=k:=⟨_,rfl⟩
        obtain ⟨j3,ej3⟩:∃ k,G.w.hs.length=k:=⟨_,rfl⟩
        obtain ⟨j4,ej4⟩:∃ k,G.w.ks.length=k:=⟨_,rfl⟩
        obtain ⟨fg,efg⟩:∃ k,G.w.fr=k:=⟨_,rfl⟩
        obtain ⟨ng,eng⟩:∃ k,G.w.nx=k:=⟨_,rfl⟩
        rw [ej1,ej2,ej3,ej4,efg,eng] at hv9 hv12 h9 h12
        have HSm:=hid (rsame_any G.w _ _ W7 hv9 hv12)
        have HSx:=hid hR.s
        obtain ⟨f0,f1,f2,f3,f4,f5,ff⟩:=h9.cells
        obtain ⟨g0,g1,g2,g3,g4,g5,gf⟩:=h12.cells
        clear d0 d1 d2 d3 d4 d5 df c0 c1 c2 c3 c4 c5 cf n8 n3 HOf HTy HCe HBe HP3' HO8 hsx hR hv9 hv12 h9 h12 r1 r2 r3 r4 t1 t2 t3 t4 ej1 ej2 ej3 ej4 efg eng gl1 gl2 gl3 gl4
        go_wp2_with fail
        refine HSm.out.mono ?_
        rintro e w8 ⟨rfl,h8⟩
        have HS8:=hid (HSx.out.trans h8)
        clear h8
        go_wp2_with fail
        go_ret
        exact ⟨rfl,HS8.out⟩
theorem anew_law (p q C R:Int) (s:ByteArray) (lo:Option Addr) (ln lc:Nat) (l:List Int) (hz:s.size<=281474976710656) (a:Int) (xo:Option Addr) (n xcp:Nat) (L:List Cm) (g47:56*n<=140737488351232) (hcx:xo=none->xcp=0) (w:World) (ht:Tab w) (hd:DTab w) (hr:RdI w lo ln lc l) (hx:RdG KX w xo n L) :
  Calls Tryz.prog 4 #[.agg #[.int .i64 p,.int .u64 q,.int .i64 C,.int .i64 R,.string s,.slice lo ln lc],.int .i64 a,.slice xo n xcp] w fun e w'=>e=.returned (.bool true)/\Still w w':=by
 obtain ⟨v0,hv0⟩:=chkV_ex C R s w
 by_cases hc:CfgP p v0 (stV C s v0).length l
 ·obtain ⟨N,rfl,_⟩:=cfg_nat hc
  exact anew_yes N q C R s lo ln lc l a v0 hv0 hc hz xo n xcp L g47 hcx w ht hd hr hx
 ·exact anew_no p q C R s lo ln lc l a v0 hv0 hc xo n xcp w ht hd hr
end Go.Proofs.YtlibdheihodniaaGreatDoor
