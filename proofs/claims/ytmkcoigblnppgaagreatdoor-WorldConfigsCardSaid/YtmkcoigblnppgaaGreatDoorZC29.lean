/- Parts of the proof, laid end to end. -/
import Derived.Test.YtmkcoigblnppgaaGreatDoorZC21
import Derived.Test.YtmkcoigblnppgaaGreatDoorZC25
import Derived.Test.YtmkcoigblnppgaaGreatDoorZC17
import Derived.Test.YtmkcoigblnppgaaGreatDoorZC19
import Derived.Test.YtmkcoigblnppgaaGreatDoorZC10
import Derived.Test.YtmkcoigblnppgaaGreatDoorZC26
import Derived.Test.YtmkcoigblnppgaaGreatDoorZC28
import Derived.Test.YtmkcoigblnppgaaGreatDoorZC22
import Derived.Test.YtmkcoigblnppgaaGreatDoorZC06
namespace Go.Proofs.YtmkcoigblnppgaaGreatDoor
open Go.RowKit
open Pu Gp Ap Vp Np Za Ka Ja Ea Ha Hg Hi
set_option maxRecDepth 100000
theorem chkV_ex (C R:Int) (s:ByteArray) (w:World):∃ v,ChkV C R s v:=by
 obtain ⟨e,w',fr,⟨v,_,hv,_⟩,_⟩:=mapcheck_any C R s w []
 exact ⟨v,hv⟩
theorem q13_of (F:Cf) (v:Int) (hv:ChkV F.C F.R F.s v) (x:World):Q13 x F v (stV F.C F.s v) (spV F.C F.s v) where
 chk u _:=(mapcheck_any F.C F.R F.s u).mono fun e w' ⟨v',he,hv',hs⟩=>by
  rw [chkV_one hv' hv] at he
  exact ⟨he,hs⟩
 sts u _:=(starts_any F.C F.R F.s u).mono fun e w' ⟨a,v',he,hv',ho,hs⟩=>by
  rw [chkV_one hv' hv] at ho
  exact ⟨a,he,ho,hs⟩
 sps u _:=(spots_any F.C F.R F.s u).mono fun e w' ⟨a,v',he,hv',ho,hs⟩=>by
  rw [chkV_one hv' hv] at ho
  exact ⟨a,he,ho,hs⟩
theorem p13_of (F:Cf) (hz:F.s.size <= 281474976710656) (st sp:List (Int × Int)) (x:World) (ht:Tab x) (hd:DTab x):P13 x F ⟨solB F.C F.R F.s,st,sp,F.q⟩ where
 act m v a b c u hu:=act_any m v a b c u (ht.still hu)
 fire m ow pw no u hu:=fire_any m ow pw no u (ht.still hu)
 gli m u:=glide8_any m F.C F.R F.s hz u
 bod L ao n cap u h:=hbodies_any L ao n cap u h
 apt a b u:=hapart_any a b u
 fly s u:=fly_any s F.C F.R F.s hz u
 sho L S ao n cap so r scap u h1 h2:=hshots_any L S ao n cap so r scap u h1 h2
 hur m h u:=hurt8_any m h u
 dmg p u:=dmgs_any p u
 hit a b n out u:=shit_any a b n out u
 pic L Q T ao n cap po r pcap xo t tcap u h1 h2 h3 h4:=hpic_any L Q T ao n cap po r pcap xo t tcap u h1 h2 h3 h4
 tak m k u:=ptake_any m k u
 gai s n u:=sgain_any s n u
 spw f s no L ao n cap u hu h1 h2:=pspawn_any F.q f s no L ao n cap u (hd.still hu) h1 h2
 res m x y u:=rest8_any m x y u
end Go.Proofs.YtmkcoigblnppgaaGreatDoor
namespace Go.Proofs.YtmkcoigblnppgaaGreatDoor
open Go.RowKit
open Pu Gp Ap Vp Np Za Ka Ja Ea Ha Hg Hi
set_option maxRecDepth 100000
abbrev E0:Env:=⟨solB 8 6 std3,[(6144,6144),(26624,6144),(6144,18432),(26624,18432)],[(14336,10240),(18432,10240)],7⟩
abbrev y0:Cm:=⟨1,1,1,7,9,0,0⟩
theorem w0_st:stV 8 std3 0=[(6144,6144),(26624,6144),(6144,18432),(26624,18432)]:=by kernel_rfl
theorem w0_sp:spV 8 std3 0=[(14336,10240),(18432,10240)]:=by kernel_rfl
theorem w0_m1:mm (nwM E0.st 2) 1=⟨26624,6144,0,0,0,0,4,100,50,false,0,0,0⟩:=by kernel_rfl
theorem w0_ns:(frame E0 (nw0 E0 2) [y0]).ns=[⟨8,1,9⟩]:=by kernel_rfl
theorem w0_sd:(mm (frame E0 (nw0 E0 2) [y0]).w.ms 1).sd=9:=by kernel_rfl
theorem w0_len:(frame E0 (nw0 E0 2) [y0]).w.ms.length=2:=by kernel_rfl
theorem w0_fr:(frame E0 (nw0 E0 2) [y0]).w.fr=1:=by kernel_rfl
theorem w0_cfg:CfgP 2 0 4 [0,2]:=by
 refine ⟨by decide,by decide,rfl,by decide,by decide,by decide,rfl,fun i h1 h2=>?_⟩
 obtain rfl:i=1:=by simp at h2; omega
 exact ⟨by decide,by decide⟩
theorem w0_rgt:Rgt 2 y0:=⟨by decide,by decide,by decide,by kernel_rfl⟩
theorem w0_ord:Ordr 2 1 [y0]:=fun i hi=>by
 obtain rfl:i=0:=by simp at hi; omega
 exact ⟨⟨w0_rgt,rfl⟩,fun h=>absurd h (by omega)⟩
theorem w0_good:Ha.Good 2 E0 (nw0 E0 2):=good_nw0 (by decide)
theorem w0_fits:Fits 2 E0 (nw0 E0 2):=⟨w0_good,by decide,by decide⟩
theorem w0_fits1:Fits 2 E0 (frame E0 (nw0 E0 2) [y0]).w:=by
 have h:=good_frame (n:=2) (by omega) w0_good (l:=[y0]) (fun x hx=>by simp at hx; subst hx; exact w0_rgt)
 refine ⟨h.1, ?_⟩
 rw [w0_fr]
 decide
theorem cfb_put {w:World} {g:Nat} {F:Cf} (h0:Cfb w g F) (p q C R:Int) (s:ByteArray) (lo:Option Addr) (n c:Nat):Cfb ((((((w.setCell ⟨g,0,none⟩ (.int .i64 p)).setCell ⟨g,1,none⟩ (.int .u64 q)).setCell ⟨g,2,none⟩ (.int .i64 C)).setCell ⟨g,3,none⟩ (.int .i64 R)).setCell ⟨g,4,none⟩ (.string s)).setCell ⟨g,5,none⟩ (.slice lo n c)) g ⟨p,q,C,R,s,.slice lo n c⟩:=by
 unfold Cfb at h0 ⊢
 have h1:=heap_setCell_same _ g 0 _ _ (.int .i64 p) h0
 have h2:=heap_setCell_same _ g 1 _ _ (.int .u64 q) h1
 have h3:=heap_setCell_same _ g 2 _ _ (.int .i64 C) h2
 have h4:=heap_setCell_same _ g 3 _ _ (.int .i64 R) h3
 have h5:=heap_setCell_same _ g 4 _ _ (.string s) h4
 have h6:=heap_setCell_same _ g 5 _ _ (.slice lo n c) h5
 exact h6.trans (by kernel_rfl)
theorem fr_put6 {a w:World} {g:Nat} (h:Fr (fun k=>k=g) a w) (v0 v1 v2 v3 v4 v5:Value):Fr (fun k=>k=g) a ((((((w.setCell ⟨g,0,none⟩ v0).setCell ⟨g,1,none⟩ v1).setCell ⟨g,2,none⟩ v2).setCell ⟨g,3,none⟩ v3).setCell ⟨g,4,none⟩ v4).setCell ⟨g,5,none⟩ v5) :=
 (((((h.setCell _ _ (.inl rfl)).setCell _ _ (.inl rfl)).setCell _ _ (.inl rfl)).setCell _ _ (.inl rfl)).setCell _ _ (.inl rfl)).setCell _ _ (.inl rfl)
theorem cfb_load {w:World} {g:Nat} {p q C R:Int} {s:ByteArray} {lo:Option Addr} {n c:Nat} (h:Cfb w g ⟨p,q,C,R,s,.slice lo n c⟩):(loadVar 27 ⟨g,0,none⟩).run Tryz.prog w=.ok (.agg #[.int .i64 p,.int .u64 q,.int .i64 C,.int .i64 R,.string s,.slice lo n c]) w:=by
 obtain ⟨c0,c1,c2,c3,c4,c5,cf⟩:=h.cells
 dsimp only at c0 c1 c2 c3 c4 c5
 clear h
 go_simp
theorem cfb_res {fn:Func} {r:Tmp} {w:World} {g:Nat} {p q C R:Int} {s:ByteArray} {lo:Option Addr} {n c:Nat} (hb:Cfb w g ⟨p,q,C,R,s,.slice lo n c⟩) (h:fn.results=#[.cell r 27]) (tmps:Array Value) (hp:tmps.getD r undef=.pointer (some ⟨g,0,none⟩)) :
  (results fn tmps).run Tryz.prog w=.ok (.agg #[.int .i64 p,.int .u64 q,.int .i64 C,.int .i64 R,.string s,.slice lo n c]) w:=by
 have hp':tmps[r]?.getD undef=.pointer (some ⟨g,0,none⟩):=by simpa using hp
 simp [results,h,hp',asAddr,cfb_load hb]
set_option maxHeartbeats 1000000 in
theorem lses_any (w:World):Calls Tryz.prog 22 #[] w fun e w'=>∃ gl,e=.returned (.agg #[.int .i64 2,.int .u64 7,.int .i64 8,.int .i64 6,.string std3,.slice (some ⟨gl,0,none⟩) 2 2])/\RdI w' (some ⟨gl,0,none⟩) 2 2 [0,2]/\Still w w':=by
 have HSd:=hid rstd_3
 obtain ⟨S,eS⟩:∃ S,std3=S:=⟨_,rfl⟩
 rw [eS] at HSd ⊢
 clear eS
 have A0:=Still.alloc w (.cells #[.int .i64 0,.int .u64 0,.int .i64 0,.int .i64 0,.string ByteArray.empty,.slice none 0 0] 27)
 have p0:Cfb _ w.heap.size ⟨0,0,0,0,ByteArray.empty,.slice none 0 0⟩:=newCf_cb w ⟨0,0,0,0,ByteArray.empty,.slice none 0 0⟩
 have HS0:=hid A0
 have HP0:=hid p0
 clear A0 p0
 go_enter Tryz.func22,Tryz.ntmps22
 go_wp2_with fail
 refine (HSd.out _).mono ?_
 rintro e w1 ⟨rfl,h1⟩
 have A2:=Still.alloc w1 (.cells #[.int .i64 8,.int .i64 6,.string S] 24)
 have A3:=Still.alloc (w1.alloc (.cells #[.int .i64 8,.int .i64 6,.string S] 24)) (.cells #[.int .i64 0,.int .i64 2] 3)
 have a2:=newA_ab w1 8 6 S
 have hp:=((HP0.out.still h1).still A2).still A3
 have HP3:=hid hp
 have HS3:=hid (((HS0.out.trans h1).trans A2).trans A3)
 have HL3:=hid (rdI_two (w1.alloc (.cells #[.int .i64 8,.int .i64 6,.string S] 24)) 0 2)
 have HLT:=hid (show w.heap.size < w1.heap.size from block_lt (HP0.out.still h1))
 obtain ⟨i0,i1,i2,jf⟩:=a2.cells
 clear A2 A3 a2 h1
 obtain ⟨c0,c1,c2,c3,c4,c5,cf⟩:=hp.cells
 clear hp
 go_wp2_with fail
 refine bodyPost_ret (cfb_res (cfb_put HP3.out 2 7 8 6 S _ 2 2) rfl _ rfl) rfl ⟨w1.heap.size + 1,rfl, ?_,still_set6 HS3.out (Nat.le_refl _) _ _ _ _ _ _⟩
 have h:=HL3.out
 rw [size_alloc] at h
 refine h.kept (fr_put6 (Fr.refl _ _) _ _ _ _ _ _) (fun a ha _ e=>?_)
 cases ha
 have e:w1.heap.size + 1=w.heap.size:=e
 have:=HLT.out
 omega
end Go.Proofs.YtmkcoigblnppgaaGreatDoor
namespace Go.Proofs.YtmkcoigblnppgaaGreatDoor
open Go.RowKit
open Pu Gp Ap Vp Np Za Ka Ja Ea Ha Hg Hi
set_option maxRecDepth 100000
abbrev nv (x:Nn):Value:=.agg (ncs x)
def eqNn (x y:Nn):Bool:=(x.k == y.k) && ((x.a == y.a) && (x.b == y.b))
theorem eqNn_refl (x:Nn):eqNn x x=true:=by unfold eqNn; simp
theorem npart_in (x:Nn) (w:World):(part 3 (ncs x) 0).run Tryz.prog w=.ok (.int .i64 x.k) w/\(part 3 (ncs x) 1).run Tryz.prog w=.ok (.int .i64 x.a) w/\(part 3 (ncs x) 2).run Tryz.prog w=.ok (.int .i64 x.b) w:=by
 refine ⟨?_, ?_, ?_⟩ <;> go_simp
theorem equal_nv (x y:Nn) (w:World):(Op.equalIn 10000 52 (nv x) (nv y)).run Tryz.prog w=.ok (eqNn x y) w:=by
 have c0:=fun w=>(npart_in x w).1
 have d0:=fun w=>(npart_in y w).1
 have r0:=fun w=>equal_int 9998 x.k y.k w
 have c1:=fun w=>(npart_in x w).2.1
 have d1:=fun w=>(npart_in y w).2.1
 have r1:=fun w=>equal_int 9998 x.a y.a w
 have c2:=fun w=>(npart_in x w).2.2
 have d2:=fun w=>(npart_in y w).2.2
 have r2:=fun w=>equal_int 9998 x.b y.b w
 rw [run_equalIn_struct w 9999 _ _ _ (by kernel_rfl) (by kernel_rfl)]
 have e : (Tryz.prog.fieldsOf 52) = #[⟨ "Kind", 3, 0, false, "", "", 0⟩, ⟨ "A", 3, 1, false, "", "", 8⟩, ⟨ "B", 3, 2, false, "", "", 16⟩] := by kernel_rfl
 rw [e]
 simp only [Op.eqFields,ne_eq,String.reduceEq,not_false_eq_true,if_true,Sem.run_bind,c0,c1,c2,d0,d1,d2,Result.andThen_ok,r0,r1,r2,Sem.run_ite,Sem.run_pure]
 unfold eqNn
 exact st (st (st1 _))
theorem eql_nv (x y:Nn) (w:World):(binOp .eql 52 (nv x) (nv y)).run Tryz.prog w=.ok (.bool (eqNn x y)) w:=by
 rw [run_eql_struct,equal_nv]; rfl
theorem eql_nv_t (x:Nn) (w:World):(binOp .eql 52 (nv x) (nv x)).run Tryz.prog w=.ok (.bool true) w:=by
 rw [eql_nv,eqNn_refl]
theorem guard_nv (op:BinOp) (a b:Operand) (xs ys:Array Value) (w:World):(eqGuard op 52 a b (.agg xs) (.agg ys)).run Tryz.prog w=.ok () w:=run_eqGuard_agg w op _ a b xs ys (by kernel_rfl)
theorem w0_cs:(frame E0 (nw0 E0 2) [y0]).w.cs.length=2:=by kernel_rfl
theorem w0_hs:(frame E0 (nw0 E0 2) [y0]).w.hs.length=0:=by kernel_rfl
theorem w0_ks:(frame E0 (nw0 E0 2) [y0]).w.ks.length=0:=by kernel_rfl
theorem w0_nx:(frame E0 (nw0 E0 2) [y0]).w.nx=1:=by kernel_rfl
theorem owN {e:TypeId} {w:World} {B g n cap:Nat} {L:List Nn} (h:OwG KN e w B (.slice (some ⟨g,0,none⟩) n cap) L) {i:Nat} (hi:i < L.length):w.cell? ⟨g,i * 3,none⟩=some (.int .i64 (L.getD i zNn).k)/\w.cell? ⟨g,i * 3 + 1,none⟩=some (.int .i64 (L.getD i zNn).a)/\w.cell? ⟨g,i * 3 + 2,none⟩=some (.int .i64 (L.getD i zNn).b)/\∀ o,w.frozen? ⟨g,o,none⟩=false :=
 ⟨h.get hi 0 _ rfl,h.get hi 1 _ rfl,h.get hi 2 _ rfl,h.frozen⟩
theorem rdX_one (w:World) (y:Cm):RdG KX (w.alloc (.cells (xcs y) 68)) (some ⟨w.heap.size,0,none⟩) 1 [y]:=by
 refine ⟨rfl,by omega,.inr ⟨w.heap.size,0,rfl,fun i hi j u hj=>?_⟩⟩
 obtain rfl:i=0:=by omega
 have hb:=heap_alloc_new w (.cells (xcs y) 68)
 rw [cell_of_row _ _ _ _ _ _ hb]
 have hj':(xcs y).toList[j]?=some u:=hj
 rw [Array.getElem?_toList] at hj'
 simpa using hj'
theorem aw_q (gl:Nat) (u:World):Q13 u ⟨2,7,8,6,std3,.slice (some ⟨gl,0,none⟩) 2 2⟩ 0 E0.st E0.sp:=by
 have h:=q13_of ⟨2,7,8,6,std3,.slice (some ⟨gl,0,none⟩) 2 2⟩ 0 std3_ok u
 dsimp only at h
 rw [w0_st,w0_sp] at h
 exact h
theorem aw_p (gl:Nat) (u:World) (ht:Tab u) (hd:DTab u):P13 u ⟨2,7,8,6,std3,.slice (some ⟨gl,0,none⟩) 2 2⟩ E0:=p13_of ⟨2,7,8,6,std3,.slice (some ⟨gl,0,none⟩) 2 2⟩ (show std3.size <= 281474976710656 by decide +kernel) _ _ u ht hd
theorem aw_new (gl:Nat) (u:World) (hl:RdI u (some ⟨gl,0,none⟩) 2 2 [0,2]):Calls Tryz.prog 10 #[.agg #[.int .i64 2,.int .u64 7,.int .i64 8,.int .i64 6,.string std3,.slice (some ⟨gl,0,none⟩) 2 2]] u fun e w'=>∃ v,e=.returned (.tuple #[v,.int .i64 0])/\OwW w' u.heap.size v (nw0 E0 2)/\Still u w' :=
 wnew_yes 2 7 8 6 std3 (some ⟨gl,0,none⟩) 2 2 E0 [0,2] u 0 (aw_q gl u) hl w0_cfg
theorem aw_cfg (gl:Nat) (u:World) (hl:RdI u (some ⟨gl,0,none⟩) 2 2 [0,2]):Calls Tryz.prog 14 #[.agg #[.int .i64 2,.int .u64 7,.int .i64 8,.int .i64 6,.string std3,.slice (some ⟨gl,0,none⟩) 2 2]] u fun e w'=>e=.returned (.int .i64 0)/\Still u w' :=
 wcfg_yes 2 7 8 6 std3 (some ⟨gl,0,none⟩) 2 2 E0 [0,2] u 0 (aw_q gl u) hl w0_cfg
theorem aw_chk (gl:Nat) (u:World) (hl:RdI u (some ⟨gl,0,none⟩) 2 2 [0,2]) (v:Value) (hv:RdW u v (frame E0 (nw0 E0 2) [y0]).w):Calls Tryz.prog 17 #[.agg #[.int .i64 2,.int .u64 7,.int .i64 8,.int .i64 6,.string std3,.slice (some ⟨gl,0,none⟩) 2 2],v] u fun e w'=>e=.returned (.int .i64 0)/\Still u w':=by
 have h:=wchk_yes 2 7 8 6 std3 (some ⟨gl,0,none⟩) 2 2 E0 [0,2] u 0 (aw_q gl u) hl w0_cfg _ v hv
 rw [show chkW ((2:Nat):Int) E0 (frame E0 (nw0 E0 2) [y0]).w=0 from chkW_yes w0_fits1] at h
 exact h
theorem stE_zero {p v0:Int} {E:Env} {l:List Int} {W:Wd} {cs:List Cm} (hc:CfgP p v0 E.st.length l) (hF:Fits p E W) (hm:W.fr ≠ 1099511627776) (hO:Ordr p (W.fr + 1) cs):stE p v0 E l W cs=0:=by
 unfold stE
 rw [if_neg (not_not_intro hc),if_neg (not_not_intro hF),if_neg hm,if_neg (not_not_intro hO)]
theorem aw_step (gl gx:Nat) (u:World) (ht:Tab u) (hd:DTab u) (hl:RdI u (some ⟨gl,0,none⟩) 2 2 [0,2]) (v:Value) (hv:RdW u v (nw0 E0 2)) (hx:RdG KX u (some ⟨gx,0,none⟩) 1 [y0]):Calls Tryz.prog 21 #[.agg #[.int .i64 2,.int .u64 7,.int .i64 8,.int .i64 6,.string std3,.slice (some ⟨gl,0,none⟩) 2 2],v,.slice (some ⟨gx,0,none⟩) 1 1] u fun e w'=>StYes u w' E0 (nw0 E0 2) [y0] e :=
 (wStep_any 2 7 8 6 std3 (some ⟨gl,0,none⟩) 2 2 E0 [0,2] u 0 (aw_q gl u) (aw_p gl u ht hd) hl w0_cfg (by decide) (nw0 E0 2) v hv (some ⟨gx,0,none⟩) 1 1 [y0] hx (by omega)).mono fun e w' h=>h.1 (stE_zero w0_cfg w0_fits (by decide) w0_ord)
theorem aw_ref (gl gx:Nat) (u:World) (ht:Tab u) (hd:DTab u) (hl:RdI u (some ⟨gl,0,none⟩) 2 2 [0,2]) (hx:RdG KX u (some ⟨gx,0,none⟩) 1 [y0]):Calls Tryz.prog 23 #[.agg #[.int .i64 2,.int .u64 7,.int .i64 8,.int .i64 6,.string std3,.slice (some ⟨gl,0,none⟩) 2 2],.int .i64 1,.slice (some ⟨gx,0,none⟩) 1 1] u fun e w'=>∃ v,e=.returned (.tuple #[v,.int .i64 0])/\OwW w' u.heap.size v (frame E0 (nw0 E0 2) [y0]).w/\Still u w' :=
 wref_one 2 7 8 6 std3 (some ⟨gl,0,none⟩) 2 2 E0 [0,2] u 0 (aw_q gl u) (aw_p gl u ht hd) hl w0_cfg (by decide) 1 1 7 9 0 0 w0_rgt gx 1 hx
set_option maxHeartbeats 8000000 in
theorem awake13_any (w:World) (ht:Tab w) (hd:DTab w):Calls Tryz.prog 9 #[] w fun e w'=>e=.returned (.bool true)/\Still w w':=by
 have HSes:=hid lses_any
 have HNew:=hid aw_new
 have HCfg:=hid aw_cfg
 have HChk:=hid aw_chk
 have HStp:=hid aw_step
 have HRef:=hid aw_ref
 obtain ⟨S,eS⟩:∃ S,std3=S:=⟨_,rfl⟩
 rw [eS] at HSes
 simp only [eS] at HNew HCfg HChk HStp HRef
 clear eS
 have HT:=hid ht
 have HDt:=hid hd
 clear ht hd
 have G1:=guard_pt
 have G2:=fun w=>neq_pt_f (x:=26624) (y:=6144) (z:=26624) (u:=6144) ⟨rfl,rfl⟩ w
 have G3:=guard_nv
 have G4:=fun w=>eql_nv_t ⟨8,1,9⟩ w
 go_enter Tryz.func9,Tryz.ntmps9
 go_wp2_with fail
 refine (HSes.out _).mono ?_
 rintro e w1 ⟨gl,rfl,hl,h1⟩
 have A1:=Still.alloc w1 (.cells #[.int .i64 2,.int .u64 7,.int .i64 8,.int .i64 6,.string S,.slice (some ⟨gl,0,none⟩) 2 2] 27)
 have HP1:Hid (Cfb (w1.alloc (.cells #[.int .i64 2,.int .u64 7,.int .i64 8,.int .i64 6,.string S,.slice (some ⟨gl,0,none⟩) 2 2] 27)) w1.heap.size ⟨2,7,8,6,S,.slice (some ⟨gl,0,none⟩) 2 2⟩):=hid (newCf_cb w1 ⟨2,7,8,6,S,.slice (some ⟨gl,0,none⟩) 2 2⟩)
 have HL1:=hid (hl.still A1)
 have HS1:Hid (Still w (w1.alloc (.cells #[.int .i64 2,.int .u64 7,.int .i64 8,.int .i64 6,.string S,.slice (some ⟨gl,0,none⟩) 2 2] 27))):=hid (h1.trans A1)
 clear hl h1 A1
 obtain ⟨W1,eW1⟩:∃ X,w1.alloc (.cells #[.int .i64 2,.int .u64 7,.int .i64 8,.int .i64 6,.string S,.slice (some ⟨gl,0,none⟩) 2 2] 27)=X:=⟨_,rfl⟩
 rw [eW1] at HP1 HL1 HS1
 obtain ⟨b1,eb1⟩:∃ k,w1.heap.size=k:=⟨_,rfl⟩
 rw [eb1] at HP1
 obtain ⟨c0,c1,c2,c3,c4,c5,cf⟩:=HP1.out.cells
 dsimp only at c0 c1 c2 c3 c4 c5
 go_wp2_with fail
 refine (HNew.out gl W1 HL1.out).mono ?_
 rintro e w2 ⟨u,rfl,hW,h2⟩
 have hV:=OwW.rd hW (by decide) (by decide) (by decide) (by decide)
 obtain ⟨a,b,c,d,rfl,q1,q2,q3,q4⟩:=hW
 obtain ⟨gm,cm1,rfl,_,_⟩:=q1.head (by decide)
 obtain ⟨xb,yb,rfl,_⟩:=q2.slice
 obtain ⟨xc,yc,rfl,_⟩:=q3.slice
 obtain ⟨xd,yd,rfl,_⟩:=q4.slice
 simp only [show (nw0 E0 2).fr=0 from rfl,show (nw0 E0 2).nx=1 from rfl,show (nw0 E0 2).ms.length=2 from rfl,show (nw0 E0 2).cs.length=2 from rfl,show (nw0 E0 2).hs.length=0 from rfl,show (nw0 E0 2).ks.length=0 from rfl] at q1 hV ⊢
 have A2:=Still.alloc w2 (.cells (wdcs 0 1 (.slice (some ⟨gm,0,none⟩) 2 cm1) (.slice xb 2 yb) (.slice xc 0 yc) (.slice xd 0 yd)) 34)
 have hs2:=h2.trans A2
 have HP2:=hid (HP1.out.still hs2)
 have HL2:=hid (HL1.out.still hs2)
 have HS2:=hid (HS1.out.trans hs2)
 have HV2:=hid (hV.still A2)
 have HM2:=hid (q1.still A2)
 have hN2:Wdb (w2.alloc (.cells (wdcs 0 1 (.slice (some ⟨gm,0,none⟩) 2 cm1) (.slice xb 2 yb) (.slice xc 0 yc) (.slice xd 0 yd)) 34)) w2.heap.size 0 1 (.slice (some ⟨gm,0,none⟩) 2 cm1) (.slice xb 2 yb) (.slice xc 0 yc) (.slice xd 0 yd):=newWd_wb w2 0 1 _ _ _ _
 have HN2:=hid hN2
 clear hV q1 q2 q3 q4 A2 h2 hs2 hN2 c0 c1 c2 c3 c4 c5 cf eW1 eb1 HP1 HL1 HS1
 obtain ⟨W2,eW2⟩:∃ X,w2.alloc (.cells (wdcs 0 1 (.slice (some ⟨gm,0,none⟩) 2 cm1) (.slice xb 2 yb) (.slice xc 0 yc) (.slice xd 0 yd)) 34)=X:=⟨_,rfl⟩
 rw [eW2] at HP2 HL2 HS2 HV2 HM2 HN2
 obtain ⟨b2,eb2⟩:∃ k,w2.heap.size=k:=⟨_,rfl⟩
 rw [eb2] at HN2
 obtain ⟨c0,c1,c2,c3,c4,c5,cf⟩:=HP2.out.cells
 dsimp only at c0 c1 c2 c3 c4 c5
 obtain ⟨d0,d1,d2,d3,d4,d5,df⟩:=HN2.out.cells
 obtain ⟨m0,m1,m2,m3,m4,m5,m6,m7,m8,m9,m10,m11,m12,mf⟩:=owM HM2.out (i:=1) (by decide)
 rw [show mm (nw0 E0 2).ms 1=⟨26624,6144,0,0,0,0,4,100,50,false,0,0,0⟩ from w0_m1] at m0 m1 m2 m3 m4 m5 m6 m7 m8 m9 m10 m11 m12
 simp only [Nat.one_mul,Nat.reduceAdd] at m0 m1 m2 m3 m4 m5 m6 m7 m8 m9 m10 m11 m12
 have A3:=Still.alloc W2 (.cells (xcs y0) 68)
 have HP3:=hid (HP2.out.still A3)
 have HL3:=hid (HL2.out.still A3)
 have HS3:=hid (HS2.out.trans A3)
 have HV3:=hid (HV2.out.still A3)
 have HX3:=hid (rdX_one W2 y0)
 clear A3
 go_wp2_with fail
 refine (HStp.out gl _ _ (HT.out.still HS3.out) (HDt.out.still HS3.out) HL3.out _ HV3.out HX3.out).mono ?_
 rintro e w4 ⟨⟨u4,nv4,rfl,hW4,hn4⟩,h4⟩
 have hns:=w0_ns
 have hsd:=w0_sd
 have hml:=w0_len
 have hfr:=w0_fr
 have hcs:=w0_cs
 have hhs:=w0_hs
 have hks:=w0_ks
 have hnx:=w0_nx
 obtain ⟨G,eG⟩:∃ G,frame E0 (nw0 E0 2) [y0]=G:=⟨_,rfl⟩
 rw [eG] at hns hsd hml hfr hcs hhs hks hnx hW4 hn4
 simp only [eG] at HChk HRef
 clear eG
 have hV4:=OwW.rd hW4 (by omega) (by omega) (by omega) (by omega)
 obtain ⟨a,b,c,d,rfl,q1,q2,q3,q4⟩:=hW4
 obtain ⟨gm4,cm4,rfl,_,_⟩:=q1.head (by omega)
 obtain ⟨xb4,yb4,rfl,_⟩:=q2.slice
 obtain ⟨xc4,yc4,rfl,_⟩:=q3.slice
 obtain ⟨xd4,yd4,rfl,_⟩:=q4.slice
 rw [hns] at hn4
 obtain ⟨gn,cn,rfl,_,_⟩:=hn4.head (by decide)
 simp only [hfr,hnx,hml,hcs,hhs,hks,List.length_cons,List.length_nil,Nat.zero_add] at q1 hV4 hn4 ⊢
 have A4:=Still.alloc w4 (.cells (wdcs 1 1 (.slice (some ⟨gm4,0,none⟩) 2 cm4) (.slice xb4 2 yb4) (.slice xc4 0 yc4) (.slice xd4 0 yd4)) 34)
 have hs4:=h4.trans A4
 have HP4:=hid (HP3.out.still hs4)
 have HL4:=hid (HL3.out.still hs4)
 have HS4:=hid (HS3.out.trans hs4)
 have HV4:=hid (hV4.still A4)
 have HM4:=hid (q1.still A4)
 have HNn4:=hid (hn4.still A4)
 have hN4:Wdb (w4.alloc (.cells (wdcs 1 1 (.slice (some ⟨gm4,0,none⟩) 2 cm4) (.slice xb4 2 yb4) (.slice xc4 0 yc4) (.slice xd4 0 yd4)) 34)) w4.heap.size 1 1 (.slice (some ⟨gm4,0,none⟩) 2 cm4) (.slice xb4 2 yb4) (.slice xc4 0 yc4) (.slice xd4 0 yd4):=newWd_wb w4 1 1 _ _ _ _
 have HN4:=hid hN4
 have HSd:=hid hsd
 have HMl:=hid hml
 have HLs:=hid (And.intro hcs (And.intro hhs (And.intro hks (And.intro hfr hnx))))
 clear hV4 q1 q2 q3 q4 hn4 A4 h4 hs4 hN4 c0 c1 c2 c3 c4 c5 cf d0 d1 d2 d3 d4 d5 df m0 m1 m2 m3 m4 m5 m6 m7 m8 m9 m10 m11 m12 mf eW2 eb2 HP3 HL3 HS3 HV3 HX3 HP2 HL2 HS2 HV2 HM2 HN2 hns hsd hml hfr hcs hhs hks hnx
 obtain ⟨W4,eW4⟩:∃ X,w4.alloc (.cells (wdcs 1 1 (.slice (some ⟨gm4,0,none⟩) 2 cm4) (.slice xb4 2 yb4) (.slice xc4 0 yc4) (.slice xd4 0 yd4)) 34)=X:=⟨_,rfl⟩
 rw [eW4] at HP4 HL4 HS4 HV4 HM4 HNn4 HN4
 obtain ⟨b4,eb4⟩:∃ k,w4.heap.size=k:=⟨_,rfl⟩
 rw [eb4] at HN4
 obtain ⟨c0,c1,c2,c3,c4,c5,cf⟩:=HP4.out.cells
 dsimp only at c0 c1 c2 c3 c4 c5
 obtain ⟨d0,d1,d2,d3,d4,d5,df⟩:=HN4.out.cells
 obtain ⟨m0,m1,m2,m3,m4,m5,m6,m7,m8,m9,m10,m11,m12,mf⟩:=owM HM4.out (i:=1) (by rw [HMl.out]; omega)
 simp only [Nat.one_mul,Nat.reduceAdd,HSd.out] at m0 m1 m2 m3 m4 m5 m6 m7 m8 m9 m10 m11 m12
 have A5:=Still.alloc W4 (.cells (xcs y0) 68)
 have HP5:=hid (HP4.out.still A5)
 have HL5:=hid (HL4.out.still A5)
 have HS5:=hid (HS4.out.trans A5)
 have HV5:=hid (HV4.out.still A5)
 have HX5:=hid (rdX_one W4 y0)
 have HN5:=hid (HN4.out.still A5)
 have HM5:=hid (HNn4.out.still A5)
 clear A5
 go_wp2_with fail
 refine (HRef.out gl _ _ (HT.out.still HS5.out) (HDt.out.still HS5.out) HL5.out HX5.out).mono ?_
 rintro e w6 ⟨u6,rfl,hW6,h6⟩
 have hV6:=OwW.rd hW6 (by rw [HMl.out]; omega) (by rw [HLs.out.1]; omega) (by rw [HLs.out.2.1]; omega) (by rw [HLs.out.2.2.1]; omega)
 obtain ⟨a,b,c,d,rfl,q1,q2,q3,q4⟩:=hW6
 obtain ⟨gm6,cm6,rfl,_,_⟩:=q1.head (by rw [HMl.out]; omega)
 obtain ⟨xb6,yb6,rfl,_⟩:=q2.slice
 obtain ⟨xc6,yc6,rfl,_⟩:=q3.slice
 obtain ⟨xd6,yd6,rfl,_⟩:=q4.slice
 simp only [HMl.out,HLs.out.1,HLs.out.2.1,HLs.out.2.2.1,HLs.out.2.2.2.1,HLs.out.2.2.2.2] at hV6 ⊢
 have A6:=Still.alloc w6 (.cells (wdcs 1 1 (.slice (some ⟨gm6,0,none⟩) 2 cm6) (.slice xb6 2 yb6) (.slice xc6 0 yc6) (.slice xd6 0 yd6)) 34)
 have hs6:=h6.trans A6
 have HP6:=hid (HP5.out.still hs6)
 have HL6:=hid (HL5.out.still hs6)
 have HS6:=hid (HS5.out.trans hs6)
 have HVa:=hid (HV5.out.still hs6)
 have HVb:=hid (hV6.still A6)
 have HN6:=hid (HN5.out.still hs6)
 have HM6:=hid (HM5.out.still hs6)
 have hN6:Wdb (w6.alloc (.cells (wdcs 1 1 (.slice (some ⟨gm6,0,none⟩) 2 cm6) (.slice xb6 2 yb6) (.slice xc6 0 yc6) (.slice xd6 0 yd6)) 34)) w6.heap.size 1 1 (.slice (some ⟨gm6,0,none⟩) 2 cm6) (.slice xb6 2 yb6) (.slice xc6 0 yc6) (.slice xd6 0 yd6):=newWd_wb w6 1 1 _ _ _ _
 have HK6:=hid hN6
 clear hV6 q1 q2 q3 q4 A6 h6 hs6 hN6 c0 c1 c2 c3 c4 c5 cf d0 d1 d2 d3 d4 d5 df m0 m1 m2 m3 m4 m5 m6 m7 m8 m9 m10 m11 m12 mf eW4 eb4 HP5 HL5 HS5 HV5 HX5 HN5 HM5 HP4 HL4 HS4 HV4 HM4 HNn4 HN4
 obtain ⟨W6,eW6⟩:∃ X,w6.alloc (.cells (wdcs 1 1 (.slice (some ⟨gm6,0,none⟩) 2 cm6) (.slice xb6 2 yb6) (.slice xc6 0 yc6) (.slice xd6 0 yd6)) 34)=X:=⟨_,rfl⟩
 rw [eW6] at HP6 HL6 HS6 HVa HVb HN6 HM6 HK6
 obtain ⟨b6,eb6⟩:∃ k,w6.heap.size=k:=⟨_,rfl⟩
 rw [eb6] at HK6
 obtain ⟨d0,d1,d2,d3,d4,d5,df⟩:=HN6.out.cells
 obtain ⟨f0,f1,f2,f3,f4,f5,ff⟩:=HK6.out.cells
 go_wp2_with fail
 refine (rsame_any G.w _ _ W6 HVa.out HVb.out).mono ?_
 rintro e w7 ⟨rfl,h7⟩
 have HP7:=hid (HP6.out.still h7)
 have HL7:=hid (HL6.out.still h7)
 have HS7:=hid (HS6.out.trans h7)
 have HV7:=hid (HVa.out.still h7)
 have HN7:=hid (HN6.out.still h7)
 have HM7:=hid (HM6.out.still h7)
 clear h7 d0 d1 d2 d3 d4 d5 df f0 f1 f2 f3 f4 f5 ff eW6 eb6 HP6 HL6 HS6 HVa HVb HN6 HM6 HK6
 obtain ⟨c0,c1,c2,c3,c4,c5,cf⟩:=HP7.out.cells
 dsimp only at c0 c1 c2 c3 c4 c5
 go_wp2_with fail
 refine (HCfg.out gl w7 HL7.out).mono ?_
 rintro e w8 ⟨rfl,h8⟩
 have HP8:=hid (HP7.out.still h8)
 have HL8:=hid (HL7.out.still h8)
 have HS8:=hid (HS7.out.trans h8)
 have HV8:=hid (HV7.out.still h8)
 have HN8:=hid (HN7.out.still h8)
 have HM8:=hid (HM7.out.still h8)
 clear h8 c0 c1 c2 c3 c4 c5 cf HP7 HL7 HS7 HV7 HN7 HM7
 obtain ⟨c0,c1,c2,c3,c4,c5,cf⟩:=HP8.out.cells
 dsimp only at c0 c1 c2 c3 c4 c5
 obtain ⟨d0,d1,d2,d3,d4,d5,df⟩:=HN8.out.cells
 go_wp2_with fail
 refine (HChk.out gl w8 HL8.out _ HV8.out).mono ?_
 rintro e w9 ⟨rfl,h9⟩
 have HS9:=hid (HS8.out.trans h9)
 obtain ⟨n0,n1,n2,nf⟩:=owN (HM8.out.still h9) (i:=0) (by decide)
 simp only [Nat.zero_mul,Nat.zero_add,List.getD_cons_zero] at n0 n1 n2
 clear h9 c0 c1 c2 c3 c4 c5 cf d0 d1 d2 d3 d4 d5 df HP8 HL8 HS8 HV8 HN8 HM8
 go_wp2_with fail
 go_ret
 exact ⟨rfl,HS9.out⟩
end Go.Proofs.YtmkcoigblnppgaaGreatDoor
namespace Go.Proofs.YtmkcoigblnppgaaGreatDoor
open Go.RowKit
open Pu Gp Ap Vp Np Za Ka Ja Ea Ha Hg Hi
set_option maxRecDepth 100000
abbrev envM (q C R:Int) (s:ByteArray) (v0:Int):Env:=⟨solB C R s,stV C s v0,spV C s v0,q⟩
theorem cfg_nat {p v0:Int} {k:Nat} {l:List Int} (h:CfgP p v0 k l):∃ N:Nat,p=(N:Int)/\2 <= N/\N <= 6/\N <= k:=⟨p.toNat,by have:=h.1; omega,by have:=h.1; omega,by have:=h.2.1; omega,by have:=h.2.2.2.1; have:=h.1; omega⟩
end Go.Proofs.YtmkcoigblnppgaaGreatDoor
namespace Go.Proofs.YtmkcoigblnppgaaGreatDoor
open Go.RowKit
open Pu Gp Ap Vp Np Za Ka Ja Ea Ha Hg Hi
set_option maxRecDepth 100000
def zWd:Wd:=⟨0,[],[],[],[],0⟩
theorem rd_zWd (w:World):RdW w (.agg (wdcs 0 0 (.slice none 0 0) (.slice none 0 0) (.slice none 0 0) (.slice none 0 0))) zWd:=⟨_,_,_,_,rfl,⟨none,0,rfl,by simp [zWd],fun _=>rfl,RdG.nil w none⟩,⟨none,0,rfl,by simp [zWd],fun _=>rfl,RdG.nil w none⟩,⟨none,0,rfl,by simp [zWd],fun _=>rfl,RdG.nil w none⟩,⟨none,0,rfl,by simp [zWd],fun _=>rfl,RdG.nil w none⟩⟩
end Go.Proofs.YtmkcoigblnppgaaGreatDoor
