/- Parts of the proof, laid end to end. -/
import Derived.Test.YtlibdheihodniaaGreatDoorYF21
import Derived.Test.YtlibdheihodniaaGreatDoorYF24
import Derived.Test.YtlibdheihodniaaGreatDoorYF17
import Derived.Test.YtlibdheihodniaaGreatDoorYF19
import Derived.Test.YtlibdheihodniaaGreatDoorYF10
import Derived.Test.YtlibdheihodniaaGreatDoorYF25
import Derived.Test.YtlibdheihodniaaGreatDoorYF27
import Derived.Test.YtlibdheihodniaaGreatDoorYF01
import Derived.Test.YtlibdheihodniaaGreatDoorYF06
import Derived.Deep.DeepCutAuto
import Derived.Deep.RegionHeld3
set_option maxHeartbeats 16000000
namespace Go.Proofs.YtlibdheihodniaaGreatDoor
open Go.RowKit
open Pu Gp Ap Vp Np Za Ka Ja Ea Ha Hg Hi
set_option maxRecDepth 100000
theorem chkV_ex (C R:Int) (s:ByteArray) (w:World):∃ v,ChkV C R s v:=by
 obtain ⟨e,w',fr,⟨v,_,hv,_⟩,_⟩:=mapcheck_any C R s w []
 exact ⟨v,hv⟩
theorem q13_of (F:Cf) (v:Int) (hv:ChkV F.C F.R F.s v) (x:World):Q13 x F v (stV F.C F.s v) (spV F.C F.s v) where
 chk u _:=(mapcheck_any F.C F.R F.s u).mono fun e w' ⟨v',he,hv',hs⟩=>by
  rw [chkV_one hv' hv] at he
  exact ⟨he,hs⟩
 sts u _:=(starts_any F.C F.R F.s u).mono fun e w' ⟨a,v',he,hv',ho,hs⟩=>by
  rw [chkV_one hv' hv] at ho
  exact ⟨a,he,ho,hs⟩
 sps u _:=(spots_any F.C F.R F.s u).mono fun e w' ⟨a,v',he,hv',ho,hs⟩=>by
  rw [chkV_one hv' hv] at ho
  exact ⟨a,he,ho,hs⟩
theorem p13_of (F:Cf) (hz:F.s.size<=281474976710656) (st sp:List (Int × Int)) (x:World) (ht:Tab x) (hd:DTab x):P13 x F ⟨solB F.C F.R F.s,st,sp,F.q⟩ where
 act m v a b c u hu:=act_any m v a b c u (ht.still hu)
 fire m ow pw no u hu:=fire_any m ow pw no u (ht.still hu)
 gli m u:=glide8_any m F.C F.R F.s hz u
 bod L ao n cap u h:=hbodies_any L ao n cap u h
 apt a b u:=hapart_any a b u
 fly s u:=fly_any s F.C F.R F.s hz u
 sho L S ao n cap so r scap u h1 h2:=hshots_any L S ao n cap so r scap u h1 h2
 hur m h u:=hurt8_any m h u
 dmg p u:=dmgs_any p u
 hit a b n out u:=shit_any a b n out u
 pic L Q T ao n cap po r pcap xo t tcap u h1 h2 h3 h4:=hpic_any L Q T ao n cap po r pcap xo t tcap u h1 h2 h3 h4
 tak m k u:=ptake_any m k u
 gai s n u:=sgain_any s n u
 spw f s no L ao n cap u hu h1 h2:=pspawn_any F.q f s no L ao n cap u (hd.still hu) h1 h2
 res m x y u:=rest8_any m x y u
theorem spP_spo (C:Nat) (s:ByteArray):∀ n,(spP C s n).length=spoN s n
 | 0=>rfl
 | n+1=>by
  rw [spP,List.length_append,spP_spo C s n,spoN]
  split <;> simp_all
theorem spV_few {C R:Int} {s:ByteArray} {v:Int} (h:ChkV C R s v):(spV C s v).length<=16:=by
 unfold spV
 split
 ·rename_i e
  subst e
  have hf:forB C R s=true:=by
   rcases h with ⟨_,h2⟩ | ⟨h1,_⟩ | ⟨h1,_⟩
   ·cases h2
   ·exact h1
   ·exact h1
  unfold forB at hf
  simp only [Bool.and_eq_true,decide_eq_true_eq] at hf
  rw [spP_spo]
  exact hf.2.2
 ·simp
abbrev E0:Env:=⟨solB 8 6 std3,[(6144,6144),(26624,6144),(6144,18432),(26624,18432)],[(14336,10240),(18432,10240)],7⟩
abbrev y0:Cm:=⟨1,1,1,7,9,0,0⟩
theorem w0_st:stV 8 std3 0=[(6144,6144),(26624,6144),(6144,18432),(26624,18432)]:=by kernel_rfl
theorem w0_sp:spV 8 std3 0=[(14336,10240),(18432,10240)]:=by kernel_rfl
theorem w0_m1:mm (nwM E0.st 2) 1=⟨26624,6144,0,0,0,0,4,100,50,false,0,0,0⟩:=by kernel_rfl
theorem w0_ns:(frame E0 (nw0 E0 2) [y0]).ns=[⟨8,1,9⟩]:=by kernel_rfl
theorem w0_sd:(mm (frame E0 (nw0 E0 2) [y0]).w.ms 1).sd=9:=by kernel_rfl
theorem w0_len:(frame E0 (nw0 E0 2) [y0]).w.ms.length=2:=by kernel_rfl
theorem w0_fr:(frame E0 (nw0 E0 2) [y0]).w.fr=1:=by kernel_rfl
theorem w0_cfg:CfgP 2 0 4 [0,2]:=by
 refine ⟨by decide,by decide,rfl,by decide,by decide,by decide,rfl,fun i h1 h2=>?_⟩
 obtain rfl:i=1:=by simp at h2; omega
 exact ⟨by decide,by decide⟩
theorem w0_rgt:Rgt 2 y0:=⟨by decide,by decide,by decide,by kernel_rfl⟩
theorem w0_ord:Ordr 2 1 [y0]:=fun i hi=>by
 obtain rfl:i=0:=by simp at hi; omega
 exact ⟨⟨w0_rgt,rfl⟩,fun h=>absurd h (by omega)⟩
theorem w0_good:Ha.Good 2 E0 (nw0 E0 2):=good_nw0 (by decide)
theorem w0_fits:Fits 2 E0 (nw0 E0 2):=⟨w0_good,by decide,by decide⟩
theorem w0_fits1:Fits 2 E0 (frame E0 (nw0 E0 2) [y0]).w:=by
 have h:=good_frame (n:=2) (by omega) w0_good (l:=[y0]) (fun x hx=>by simp at hx; subst hx; exact w0_rgt)
 refine ⟨h.1, ?_⟩
 rw [w0_fr]
 decide
theorem cfb_put {w:World} {g:Nat} {F:Cf} (h0:Cfb w g F) (p q C R:Int) (s:ByteArray) (lo:Option Addr) (n c:Nat):Cfb ((((((w.setCell ⟨g,0,none⟩ (.int .i64 p)).setCell ⟨g,1,none⟩ (.int .u64 q)).setCell ⟨g,2,none⟩ (.int .i64 C)).setCell ⟨g,3,none⟩ (.int .i64 R)).setCell ⟨g,4,none⟩ (.string s)).setCell ⟨g,5,none⟩ (.slice lo n c)) g ⟨p,q,C,R,s,.slice lo n c⟩:=by
 unfold Cfb at h0 ⊢
 have h1:=heap_setCell_same _ g 0 _ _ (.int .i64 p) h0
 have h2:=heap_setCell_same _ g 1 _ _ (.int .u64 q) h1
 have h3:=heap_setCell_same _ g 2 _ _ (.int .i64 C) h2
 have h4:=heap_setCell_same _ g 3 _ _ (.int .i64 R) h3
 have h5:=heap_setCell_same _ g 4 _ _ (.string s) h4
 have h6:=heap_setCell_same _ g 5 _ _ (.slice lo n c) h5
 exact h6.trans (by kernel_rfl)
theorem fr_put6 {a w:World} {g:Nat} (h:Fr (fun k=>k=g) a w) (v0 v1 v2 v3 v4 v5:Value):Fr (fun k=>k=g) a ((((((w.setCell ⟨g,0,none⟩ v0).setCell ⟨g,1,none⟩ v1).setCell ⟨g,2,none⟩ v2).setCell ⟨g,3,none⟩ v3).setCell ⟨g,4,none⟩ v4).setCell ⟨g,5,none⟩ v5) :=
 (((((h.setCell _ _ (.inl rfl)).setCell _ _ (.inl rfl)).setCell _ _ (.inl rfl)).setCell _ _ (.inl rfl)).setCell _ _ (.inl rfl)).setCell _ _ (.inl rfl)
theorem cfb_load {w:World} {g:Nat} {p q C R:Int} {s:ByteArray} {lo:Option Addr} {n c:Nat} (h:Cfb w g ⟨p,q,C,R,s,.slice lo n c⟩):(loadVar 27 ⟨g,0,none⟩).run Tryz.prog w=.ok (.agg #[.int .i64 p,.int .u64 q,.int .i64 C,.int .i64 R,.string s,.slice lo n c]) w:=by
 obtain ⟨c0,c1,c2,c3,c4,c5,cf⟩:=h.cells
 dsimp only at c0 c1 c2 c3 c4 c5
 clear h
 go_simp
theorem cfb_res {fn:Func} {r:Tmp} {w:World} {g:Nat} {p q C R:Int} {s:ByteArray} {lo:Option Addr} {n c:Nat} (hb:Cfb w g ⟨p,q,C,R,s,.slice lo n c⟩) (h:fn.results=#[.cell r 27]) (tmps:Array Value) (hp:tmps.getD r undef=.pointer (some ⟨g,0,none⟩)) :
  (results fn tmps).run Tryz.prog w=.ok (.agg #[.int .i64 p,.int .u64 q,.int .i64 C,.int .i64 R,.string s,.slice lo n c]) w:=by
 have hp':tmps[r]?.getD undef=.pointer (some ⟨g,0,none⟩):=by simpa using hp
 simp [results,h,hp',asAddr,cfb_load hb]
theorem lses_any (w:World):Calls Tryz.prog 11 #[] w fun e w'=>∃ gl,e=.returned (.agg #[.int .i64 2,.int .u64 7,.int .i64 8,.int .i64 6,.string std3,.slice (some ⟨gl,0,none⟩) 2 2])/\RdI w' (some ⟨gl,0,none⟩) 2 2 [0,2]/\Still w w':=by
 have HSd:=hid rstd_3
 obtain ⟨S,eS⟩:∃ S,std3=S:=⟨_,rfl⟩
 rw [eS] at HSd ⊢
 clear eS
 have A0:=Still.alloc w (.cells #[.int .i64 0,.int .u64 0,.int .i64 0,.int .i64 0,.string ByteArray.empty,.slice none 0 0] 27)
 have p0:Cfb _ w.heap.size ⟨0,0,0,0,ByteArray.empty,.slice none 0 0⟩:=newCf_cb w ⟨0,0,0,0,ByteArray.empty,.slice none 0 0⟩
 have HS0:=hid A0
 have HP0:=hid p0
 clear A0 p0
 go_enter Tryz.func11,Tryz.ntmps11
 go_wp2_with fail
 refine (HSd.out _).mono ?_
 rintro e w1 ⟨rfl,h1⟩
 have A2:=Still.alloc w1 (.cells #[.int .i64 8,.int .i64 6,.string S] 24)
 have A3:=Still.alloc (w1.alloc (.cells #[.int .i64 8,.int .i64 6,.string S] 24)) (.cells #[.int .i64 0,.int .i64 2] 3)
 have a2:=newA_ab w1 8 6 S
 have hp:=((HP0.out.still h1).still A2).still A3
 have HP3:=hid hp
 have HS3:=hid (((HS0.out.trans h1).trans A2).trans A3)
 have HL3:=hid (rdI_two (w1.alloc (.cells #[.int .i64 8,.int .i64 6,.string S] 24)) 0 2)
 have HLT:=hid (show w.heap.size<w1.heap.size from block_lt (HP0.out.still h1))
 obtain ⟨i0,i1,i2,jf⟩:=a2.cells
 clear A2 A3 a2 h1
 obtain ⟨c0,c1,c2,c3,c4,c5,cf⟩:=hp.cells
 clear hp
 go_wp2_with fail
 refine bodyPost_ret (cfb_res (cfb_put HP3.out 2 7 8 6 S _ 2 2) rfl _ rfl) rfl ⟨w1.heap.size+1,rfl, ?_,still_set6 HS3.out (Nat.le_refl _) _ _ _ _ _ _⟩
 have h:=HL3.out
 rw [size_alloc] at h
 refine h.kept (fr_put6 (Fr.refl _ _) _ _ _ _ _ _) (fun a ha _ e=>?_)
 cases ha
 have e:w1.heap.size+1=w.heap.size:=e
 have:=HLT.out
 omega
abbrev nv (x:Nn):Value:=.agg (ncs x)
def eqNn (x y:Nn):Bool:=(x.k == y.k) && ((x.a == y.a) && (x.b == y.b))
theorem eqNn_refl (x:Nn):eqNn x x=true:=by unfold eqNn; simp
theorem npart_in (x:Nn) (w:World):(part 3 (ncs x) 0).run Tryz.prog w=.ok (.int .i64 x.k) w/\(part 3 (ncs x) 1).run Tryz.prog w=.ok (.int .i64 x.a) w/\(part 3 (ncs x) 2).run Tryz.prog w=.ok (.int .i64 x.b) w:=by
 refine ⟨?_, ?_, ?_⟩ <;> go_simp
theorem equal_nv (x y:Nn) (w:World):(Op.equalIn 10000 44 (nv x) (nv y)).run Tryz.prog w=.ok (eqNn x y) w:=by
 have c0:=fun w=>(npart_in x w).1
 have d0:=fun w=>(npart_in y w).1
 have r0:=fun w=>equal_int 9998 x.k y.k w
 have c1:=fun w=>(npart_in x w).2.1
 have d1:=fun w=>(npart_in y w).2.1
 have r1:=fun w=>equal_int 9998 x.a y.a w
 have c2:=fun w=>(npart_in x w).2.2
 have d2:=fun w=>(npart_in y w).2.2
 have r2:=fun w=>equal_int 9998 x.b y.b w
 rw [run_equalIn_struct w 9999 _ _ _ (by kernel_rfl) (by kernel_rfl)]
 have e : (Tryz.prog.fieldsOf 44) = #[⟨ "Kind", 3, 0, false, "", "", 0⟩, ⟨ "A", 3, 1, false, "", "", 8⟩, ⟨ "B", 3, 2, false, "", "", 16⟩] := by kernel_rfl
 rw [e]
 simp only [Op.eqFields,ne_eq,String.reduceEq,not_false_eq_true,if_true,Sem.run_bind,c0,c1,c2,d0,d1,d2,Result.andThen_ok,r0,r1,r2,Sem.run_ite,Sem.run_pure]
 unfold eqNn
 exact st (st (st1 _))
theorem eql_nv (x y:Nn) (w:World):(binOp .eql 44 (nv x) (nv y)).run Tryz.prog w=.ok (.bool (eqNn x y)) w:=by
 rw [run_eql_struct,equal_nv]; rfl
theorem eql_nv_t (x:Nn) (w:World):(binOp .eql 44 (nv x) (nv x)).run Tryz.prog w=.ok (.bool true) w:=by
 rw [eql_nv,eqNn_refl]
theorem guard_nv (op:BinOp) (a b:Operand) (xs ys:Array Value) (w:World):(eqGuard op 44 a b (.agg xs) (.agg ys)).run Tryz.prog w=.ok () w:=run_eqGuard_agg w op _ a b xs ys (by kernel_rfl)
theorem w0_cs:(frame E0 (nw0 E0 2) [y0]).w.cs.length=2:=by kernel_rfl
theorem w0_hs:(frame E0 (nw0 E0 2) [y0]).w.hs.length=0:=by kernel_rfl
theorem w0_ks:(frame E0 (nw0 E0 2) [y0]).w.ks.length=0:=by kernel_rfl
theorem w0_nx:(frame E0 (nw0 E0 2) [y0]).w.nx=1:=by kernel_rfl
theorem owN {e:TypeId} {w:World} {B g n cap:Nat} {L:List Nn} (h:OwG KN e w B (.slice (some ⟨g,0,none⟩) n cap) L) {i:Nat} (hi:i<L.length):w.cell? ⟨g,i*3,none⟩=some (.int .i64 (L.getD i zNn).k)/\w.cell? ⟨g,i*3+1,none⟩=some (.int .i64 (L.getD i zNn).a)/\w.cell? ⟨g,i*3+2,none⟩=some (.int .i64 (L.getD i zNn).b)/\∀ o,w.frozen? ⟨g,o,none⟩=false :=
 ⟨h.get hi 0 _ rfl,h.get hi 1 _ rfl,h.get hi 2 _ rfl,h.frozen⟩
theorem rdX_one (w:World) (y:Cm):RdG KX (w.alloc (.cells (xcs y) 60)) (some ⟨w.heap.size,0,none⟩) 1 [y]:=by
 refine ⟨rfl,by omega,.inr ⟨w.heap.size,0,rfl,fun i hi j u hj=>?_⟩⟩
 obtain rfl:i=0:=by omega
 have hb:=heap_alloc_new w (.cells (xcs y) 60)
 rw [cell_of_row _ _ _ _ _ _ hb]
 have hj':(xcs y).toList[j]?=some u:=hj
 rw [Array.getElem?_toList] at hj'
 simpa using hj'
theorem aw_q (gl:Nat) (u:World):Q13 u ⟨2,7,8,6,std3,.slice (some ⟨gl,0,none⟩) 2 2⟩ 0 E0.st E0.sp:=by
 have h:=q13_of ⟨2,7,8,6,std3,.slice (some ⟨gl,0,none⟩) 2 2⟩ 0 std3_ok u
 dsimp only at h
 rw [w0_st,w0_sp] at h
 exact h
theorem aw_p (gl:Nat) (u:World) (ht:Tab u) (hd:DTab u):P13 u ⟨2,7,8,6,std3,.slice (some ⟨gl,0,none⟩) 2 2⟩ E0:=p13_of ⟨2,7,8,6,std3,.slice (some ⟨gl,0,none⟩) 2 2⟩ (show std3.size<=281474976710656 by decide +kernel) _ _ u ht hd
theorem aw_new (gl:Nat) (u:World) (hl:RdI u (some ⟨gl,0,none⟩) 2 2 [0,2]):Calls Tryz.prog 6 #[.agg #[.int .i64 2,.int .u64 7,.int .i64 8,.int .i64 6,.string std3,.slice (some ⟨gl,0,none⟩) 2 2]] u fun e w'=>∃ v,e=.returned (.tuple #[v,.int .i64 0])/\OwW w' u.heap.size v (nw0 E0 2)/\Still u w' :=
 wnew_yes 2 7 8 6 std3 (some ⟨gl,0,none⟩) 2 2 E0 [0,2] u 0 (aw_q gl u) hl w0_cfg
theorem aw_cfg (gl:Nat) (u:World) (hl:RdI u (some ⟨gl,0,none⟩) 2 2 [0,2]):Calls Tryz.prog 12 #[.agg #[.int .i64 2,.int .u64 7,.int .i64 8,.int .i64 6,.string std3,.slice (some ⟨gl,0,none⟩) 2 2]] u fun e w'=>e=.returned (.int .i64 0)/\Still u w' :=
 wcfg_yes 2 7 8 6 std3 (some ⟨gl,0,none⟩) 2 2 E0 [0,2] u 0 (aw_q gl u) hl w0_cfg
theorem aw_chk (gl:Nat) (u:World) (hl:RdI u (some ⟨gl,0,none⟩) 2 2 [0,2]) (v:Value) (hv:RdW u v (frame E0 (nw0 E0 2) [y0]).w):Calls Tryz.prog 13 #[.agg #[.int .i64 2,.int .u64 7,.int .i64 8,.int .i64 6,.string std3,.slice (some ⟨gl,0,none⟩) 2 2],v] u fun e w'=>e=.returned (.int .i64 0)/\Still u w':=by
 have h:=wchk_yes 2 7 8 6 std3 (some ⟨gl,0,none⟩) 2 2 E0 [0,2] u 0 (aw_q gl u) hl w0_cfg _ v hv
 rw [show chkW ((2:Nat):Int) E0 (frame E0 (nw0 E0 2) [y0]).w=0 from chkW_yes w0_fits1] at h
 exact h
theorem stE_zero {p v0:Int} {E:Env} {l:List Int} {W:Wd} {cs:List Cm} (hc:CfgP p v0 E.st.length l) (hF:Fits p E W) (hm:W.fr≠1099511627776) (hO:Ordr p (W.fr+1) cs):stE p v0 E l W cs=0:=by
 unfold stE
 rw [if_neg (not_not_intro hc),if_neg (not_not_intro hF),if_neg hm,if_neg (not_not_intro hO)]
theorem aw_step (gl gx:Nat) (u:World) (ht:Tab u) (hd:DTab u) (hl:RdI u (some ⟨gl,0,none⟩) 2 2 [0,2]) (v:Value) (hv:RdW u v (nw0 E0 2)) (hx:RdG KX u (some ⟨gx,0,none⟩) 1 [y0]):Calls Tryz.prog 7 #[.agg #[.int .i64 2,.int .u64 7,.int .i64 8,.int .i64 6,.string std3,.slice (some ⟨gl,0,none⟩) 2 2],v,.slice (some ⟨gx,0,none⟩) 1 1] u fun e w'=>StYes u w' E0 (nw0 E0 2) [y0] e :=
 (wStep_any 2 7 8 6 std3 (some ⟨gl,0,none⟩) 2 2 E0 [0,2] u 0 (aw_q gl u) (aw_p gl u ht hd) hl w0_cfg (by decide) (nw0 E0 2) v hv (some ⟨gx,0,none⟩) 1 1 [y0] hx (by omega)).mono fun e w' h=>h.1 (stE_zero w0_cfg w0_fits (by decide) w0_ord)
theorem aw_ref (gl gx:Nat) (u:World) (ht:Tab u) (hd:DTab u) (hl:RdI u (some ⟨gl,0,none⟩) 2 2 [0,2]) (hx:RdG KX u (some ⟨gx,0,none⟩) 1 [y0]):Calls Tryz.prog 9 #[.agg #[.int .i64 2,.int .u64 7,.int .i64 8,.int .i64 6,.string std3,.slice (some ⟨gl,0,none⟩) 2 2],.int .i64 1,.slice (some ⟨gx,0,none⟩) 1 1] u fun e w'=>∃ v,e=.returned (.tuple #[v,.int .i64 0])/\OwW w' u.heap.size v (frame E0 (nw0 E0 2) [y0]).w/\Still u w' :=
 wref_one 2 7 8 6 std3 (some ⟨gl,0,none⟩) 2 2 E0 [0,2] u 0 (aw_q gl u) (aw_p gl u ht hd) hl w0_cfg (by decide) 1 1 7 9 0 0 w0_rgt gx 1 hx
theorem awake13_any (w:World) (ht:Tab w) (hd:DTab w):Calls Tryz.prog 5 #[] w fun e w'=>e=.returned (.bool true)/\Still w w':=by
 have HSes:=hid lses_any
 have HNew:=hid aw_new
 have HCfg:=hid aw_cfg
 have HChk:=hid aw_chk
 have HStp:=hid aw_step
 have HRef:=hid aw_ref
 obtain ⟨S,eS⟩:∃ S,std3=S:=⟨_,rfl⟩
 rw [eS] at HSes
 simp only [eS] at HNew HCfg HChk HStp HRef
 clear eS
 have HT:=hid ht
 have HDt:=hid hd
 clear ht hd
 have G1:=guard_pt
 have G2:=fun w=>neq_pt_f (x:=26624) (y:=6144) (z:=26624) (u:=6144) ⟨rfl,rfl⟩ w
 have G3:=guard_nv
 have G4:=fun w=>eql_nv_t ⟨8,1,9⟩ w
 go_enter Tryz.func5,Tryz.ntmps5
 go_wp2_with fail
 refine (HSes.out _).mono ?_
 rintro e w1 ⟨gl,rfl,hl,h1⟩
 have A1:=Still.alloc w1 (.cells #[.int .i64 2,.int .u64 7,.int .i64 8,.int .i64 6,.string S,.slice (some ⟨gl,0,none⟩) 2 2] 27)
 have HP1:Hid (Cfb (w1.alloc (.cells #[.int .i64 2,.int .u64 7,.int .i64 8,.int .i64 6,.string S,.slice (some ⟨gl,0,none⟩) 2 2] 27)) w1.heap.size ⟨2,7,8,6,S,.slice (some ⟨gl,0,none⟩) 2 2⟩):=hid (newCf_cb w1 ⟨2,7,8,6,S,.slice (some ⟨gl,0,none⟩) 2 2⟩)
 have HL1:=hid (hl.still A1)
 have HS1:Hid (Still w (w1.alloc (.cells #[.int .i64 2,.int .u64 7,.int .i64 8,.int .i64 6,.string S,.slice (some ⟨gl,0,none⟩) 2 2] 27))):=hid (h1.trans A1)
 clear hl h1 A1
 obtain ⟨W1,eW1⟩:∃ X,w1.alloc (.cells #[.int .i64 2,.int .u64 7,.int .i64 8,.int .i64 6,.string S,.slice (some ⟨gl,0,none⟩) 2 2] 27)=X:=⟨_,rfl⟩
 rw [eW1] at HP1 HL1 HS1
 obtain ⟨b1,eb1⟩:∃ k,w1.heap.size=k:=⟨_,rfl⟩
 rw [eb1] at HP1
 obtain ⟨c0,c1,c2,c3,c4,c5,cf⟩:=HP1.out.cells
 dsimp only at c0 c1 c2 c3 c4 c5
 go_wp2_with fail
 refine (HNew.out gl W1 HL1.out).mono ?_
 rintro e w2 ⟨u,rfl,hW,h2⟩
 have hV:=OwW.rd hW (by decide) (by decide) (by decide) (by decide)
 obtain ⟨a,b,c,d,rfl,q1,q2,q3,q4⟩:=hW
 obtain ⟨gm,cm1,rfl,_,_⟩:=q1.head (by decide)
 obtain ⟨xb,yb,rfl,_⟩:=q2.slice
 obtain ⟨xc,yc,rfl,_⟩:=q3.slice
 obtain ⟨xd,yd,rfl,_⟩:=q4.slice
 simp only [show (nw0 E0 2).fr=0 from rfl,show (nw0 E0 2).nx=1 from rfl,show (nw0 E0 2).ms.length=2 from rfl,show (nw0 E0 2).cs.length=2 from rfl,show (nw0 E0 2).hs.length=0 from rfl,show (nw0 E0 2).ks.length=0 from rfl] at q1 hV ⊢
 have A2:=Still.alloc w2 (.cells (wdcs 0 1 (.slice (some ⟨gm,0,none⟩) 2 cm1) (.slice xb 2 yb) (.slice xc 0 yc) (.slice xd 0 yd)) 35)
 have hs2:=h2.trans A2
 have HP2:=hid (HP1.out.still hs2)
 have HL2:=hid (HL1.out.still hs2)
 have HS2:=hid (HS1.out.trans hs2)
 have HV2:=hid (hV.still A2)
 have HM2:=hid (q1.still A2)
 have hN2:Wdb (w2.alloc (.cells (wdcs 0 1 (.slice (some ⟨gm,0,none⟩) 2 cm1) (.slice xb 2 yb) (.slice xc 0 yc) (.slice xd 0 yd)) 35)) w2.heap.size 0 1 (.slice (some ⟨gm,0,none⟩) 2 cm1) (.slice xb 2 yb) (.slice xc 0 yc) (.slice xd 0 yd):=newWd_wb w2 0 1 _ _ _ _
 have HN2:=hid hN2
 clear hV q1 q2 q3 q4 A2 h2 hs2 hN2 c0 c1 c2 c3 c4 c5 cf eW1 eb1 HP1 HL1 HS1
 obtain ⟨W2,eW2⟩:∃ X,w2.alloc (.cells (wdcs 0 1 (.slice (some ⟨gm,0,none⟩) 2 cm1) (.slice xb 2 yb) (.slice xc 0 yc) (.slice xd 0 yd)) 35)=X:=⟨_,rfl⟩
 rw [eW2] at HP2 HL2 HS2 HV2 HM2 HN2
 obtain ⟨b2,eb2⟩:∃ k,w2.heap.size=k:=⟨_,rfl⟩
 rw [eb2] at HN2
 obtain ⟨c0,c1,c2,c3,c4,c5,cf⟩:=HP2.out.cells
 dsimp only at c0 c1 c2 c3 c4 c5
 obtain ⟨d0,d1,d2,d3,d4,d5,df⟩:=HN2.out.cells
 obtain ⟨m0,m1,m2,m3,m4,m5,m6,m7,m8,m9,m10,m11,m12,mf⟩:=owM HM2.out (i:=1) (by decide)
 rw [show mm (nw0 E0 2).ms 1=⟨26624,6144,0,0,0,0,4,100,50,false,0,0,0⟩ from w0_m1] at m0 m1 m2 m3 m4 m5 m6 m7 m8 m9 m10 m11 m12
 simp only [Nat.one_mul,Nat.reduceAdd] at m0 m1 m2 m3 m4 m5 m6 m7 m8 m9 m10 m11 m12
 have A3:=Still.alloc W2 (.cells (xcs y0) 60)
 have HP3:=hid (HP2.out.still A3)
 have HL3:=hid (HL2.out.still A3)
 have HS3:=hid (HS2.out.trans A3)
 have HV3:=hid (HV2.out.still A3)
 have HX3:=hid (rdX_one W2 y0)
 clear A3
 go_wp2_with fail
 refine (HStp.out gl _ _ (HT.out.still HS3.out) (HDt.out.still HS3.out) HL3.out _ HV3.out HX3.out).mono ?_
 rintro e w4 ⟨⟨u4,nv4,rfl,hW4,hn4⟩,h4⟩
 have hns:=w0_ns
 have hsd:=w0_sd
 have hml:=w0_len
 have hfr:=w0_fr
 have hcs:=w0_cs
 have hhs:=w0_hs
 have hks:=w0_ks
 have hnx:=w0_nx
 obtain ⟨G,eG⟩:∃ G,frame E0 (nw0 E0 2) [y0]=G:=⟨_,rfl⟩
 rw [eG] at hns hsd hml hfr hcs hhs hks hnx hW4 hn4
 simp only [eG] at HChk HRef
 clear eG
 have hV4:=OwW.rd hW4 (by omega) (by omega) (by omega) (by omega)
 obtain ⟨a,b,c,d,rfl,q1,q2,q3,q4⟩:=hW4
 obtain ⟨gm4,cm4,rfl,_,_⟩:=q1.head (by omega)
 obtain ⟨xb4,yb4,rfl,_⟩:=q2.slice
 obtain ⟨xc4,yc4,rfl,_⟩:=q3.slice
 obtain ⟨xd4,yd4,rfl,_⟩:=q4.slice
 rw [hns] at hn4
 obtain ⟨gn,cn,rfl,_,_⟩:=hn4.head (by decide)
 simp only [hfr,hnx,hml,hcs,hhs,hks,List.length_cons,List.length_nil,Nat.zero_add] at q1 hV4 hn4 ⊢
 have A4:=Still.alloc w4 (.cells (wdcs 1 1 (.slice (some ⟨gm4,0,none⟩) 2 cm4) (.slice xb4 2 yb4) (.slice xc4 0 yc4) (.slice xd4 0 yd4)) 35)
 have hs4:=h4.trans A4
 have HP4:=hid (HP3.out.still hs4)
 have HL4:=hid (HL3.out.still hs4)
 have HS4:=hid (HS3.out.trans hs4)
 have HV4:=hid (hV4.still A4)
 have HM4:=hid (q1.still A4)
 have HNn4:=hid (hn4.still A4)
 have hN4:Wdb (w4.alloc (.cells (wdcs 1 1 (.slice (some ⟨gm4,0,none⟩) 2 cm4) (.slice xb4 2 yb4) (.slice xc4 0 yc4) (.slice xd4 0 yd4)) 35)) w4.heap.size 1 1 (.slice (some ⟨gm4,0,none⟩) 2 cm4) (.slice xb4 2 yb4) (.slice xc4 0 yc4) (.slice xd4 0 yd4):=newWd_wb w4 1 1 _ _ _ _
 have HN4:=hid hN4
 have HSd:=hid hsd
 have HMl:=hid hml
 have HLs:=hid (And.intro hcs (And.intro hhs (And.intro hks (And.intro hfr hnx))))
 clear hV4 q1 q2 q3 q4 hn4 A4 h4 hs4 hN4 c0 c1 c2 c3 c4 c5 cf d0 d1 d2 d3 d4 d5 df m0 m1 m2 m3 m4 m5 m6 m7 m8 m9 m10 m11 m12 mf eW2 eb2 HP3 HL3 HS3 HV3 HX3 HP2 HL2 HS2 HV2 HM2 HN2 hns hsd hml hfr hcs hhs hks hnx
 obtain ⟨W4,eW4⟩:∃ X,w4.alloc (.cells (wdcs 1 1 (.slice (some ⟨gm4,0,none⟩) 2 cm4) (.slice xb4 2 yb4) (.slice xc4 0 yc4) (.slice xd4 0 yd4)) 35)=X:=⟨_,rfl⟩
 rw [eW4] at HP4 HL4 HS4 HV4 HM4 HNn4 HN4
 obtain ⟨b4,eb4⟩:∃ k,w4.heap.size=k:=⟨_,rfl⟩
 rw [eb4] at HN4
 obtain ⟨c0,c1,c2,c3,c4,c5,cf⟩:=HP4.out.cells
 dsimp only at c0 c1 c2 c3 c4 c5
 obtain ⟨d0,d1,d2,d3,d4,d5,df⟩:=HN4.out.cells
 obtain ⟨m0,m1,m2,m3,m4,m5,m6,m7,m8,m9,m10,m11,m12,mf⟩:=owM HM4.out (i:=1) (by rw [HMl.out]; omega)
 simp only [Nat.one_mul,Nat.reduceAdd,HSd.out] at m0 m1 m2 m3 m4 m5 m6 m7 m8 m9 m10 m11 m12
 have A5:=Still.alloc W4 (.cells (xcs y0) 60)
 have HP5:=hid (HP4.out.still A5)
 have HL5:=hid (HL4.out.still A5)
 have HS5:=hid (HS4.out.trans A5)
 have HV5:=hid (HV4.out.still A5)
 have HX5:=hid (rdX_one W4 y0)
 have HN5:=hid (HN4.out.still A5)
 have HM5:=hid (HNn4.out.still A5)
 clear A5
 go_wp2_with fail
 refine (HRef.out gl _ _ (HT.out.still HS5.out) (HDt.out.still HS5.out) HL5.out HX5.out).mono ?_
 rintro e w6 ⟨u6,rfl,hW6,h6⟩
 have hV6:=OwW.rd hW6 (by rw [HMl.out]; omega) (by rw [HLs.out.1]; omega) (by rw [HLs.out.2.1]; omega) (by rw [HLs.out.2.2.1]; omega)
 obtain ⟨a,b,c,d,rfl,q1,q2,q3,q4⟩:=hW6
 obtain ⟨gm6,cm6,rfl,_,_⟩:=q1.head (by rw [HMl.out]; omega)
 obtain ⟨xb6,yb6,rfl,_⟩:=q2.slice
 obtain ⟨xc6,yc6,rfl,_⟩:=q3.slice
 obtain ⟨xd6,yd6,rfl,_⟩:=q4.slice
 simp only [HMl.out,HLs.out.1,HLs.out.2.1,HLs.out.2.2.1,HLs.out.2.2.2.1,HLs.out.2.2.2.2] at hV6 ⊢
 have A6:=Still.alloc w6 (.cells (wdcs 1 1 (.slice (some ⟨gm6,0,none⟩) 2 cm6) (.slice xb6 2 yb6) (.slice xc6 0 yc6) (.slice xd6 0 yd6)) 35)
 have hs6:=h6.trans A6
 have HP6:=hid (HP5.out.still hs6)
 have HL6:=hid (HL5.out.still hs6)
 have HS6:=hid (HS5.out.trans hs6)
 have HVa:=hid (HV5.out.still hs6)
 have HVb:=hid (hV6.still A6)
 have HN6:=hid (HN5.out.still hs6)
 have HM6:=hid (HM5.out.still hs6)
 have hN6:Wdb (w6.alloc (.cells (wdcs 1 1 (.slice (some ⟨gm6,0,none⟩) 2 cm6) (.slice xb6 2 yb6) (.slice xc6 0 yc6) (.slice xd6 0 yd6)) 35)) w6.heap.size 1 1 (.slice (some ⟨gm6,0,none⟩) 2 cm6) (.slice xb6 2 yb6) (.slice xc6 0 yc6) (.slice xd6 0 yd6):=newWd_wb w6 1 1 _ _ _ _
 have HK6:=hid hN6
 clear hV6 q1 q2 q3 q4 A6 h6 hs6 hN6 c0 c1 c2 c3 c4 c5 cf d0 d1 d2 d3 d4 d5 df m0 m1 m2 m3 m4 m5 m6 m7 m8 m9 m10 m11 m12 mf eW4 eb4 HP5 HL5 HS5 HV5 HX5 HN5 HM5 HP4 HL4 HS4 HV4 HM4 HNn4 HN4
 obtain ⟨W6,eW6⟩:∃ X,w6.alloc (.cells (wdcs 1 1 (.slice (some ⟨gm6,0,none⟩) 2 cm6) (.slice xb6 2 yb6) (.slice xc6 0 yc6) (.slice xd6 0 yd6)) 35)=X:=⟨_,rfl⟩
 rw [eW6] at HP6 HL6 HS6 HVa HVb HN6 HM6 HK6
 obtain ⟨b6,eb6⟩:∃ k,w6.heap.size=k:=⟨_,rfl⟩
 rw [eb6] at HK6
 obtain ⟨d0,d1,d2,d3,d4,d5,df⟩:=HN6.out.cells
 obtain ⟨f0,f1,f2,f3,f4,f5,ff⟩:=HK6.out.cells
 go_wp2_with fail
 refine (rsame_any G.w _ _ W6 HVa.out HVb.out).mono ?_
 rintro e w7 ⟨rfl,h7⟩
 have HP7:=hid (HP6.out.still h7)
 have HL7:=hid (HL6.out.still h7)
 have HS7:=hid (HS6.out.trans h7)
 have HV7:=hid (HVa.out.still h7)
 have HN7:=hid (HN6.out.still h7)
 have HM7:=hid (HM6.out.still h7)
 clear h7 d0 d1 d2 d3 d4 d5 df f0 f1 f2 f3 f4 f5 ff eW6 eb6 HP6 HL6 HS6 HVa HVb HN6 HM6 HK6
 obtain ⟨c0,c1,c2,c3,c4,c5,cf⟩:=HP7.out.cells
 dsimp only at c0 c1 c2 c3 c4 c5
 go_wp2_with fail
 refine (HCfg.out gl w7 HL7.out).mono ?_
 rintro e w8 ⟨rfl,h8⟩
 have HP8:=hid (HP7.out.still h8)
 have HL8:=hid (HL7.out.still h8)
 have HS8:=hid (HS7.out.trans h8)
 have HV8:=hid (HV7.out.still h8)
 have HN8:=hid (HN7.out.still h8)
 have HM8:=hid (HM7.out.still h8)
 clear h8 c0 c1 c2 c3 c4 c5 cf HP7 HL7 HS7 HV7 HN7 HM7
 obtain ⟨c0,c1,c2,c3,c4,c5,cf⟩:=HP8.out.cells
 dsimp only at c0 c1 c2 c3 c4 c5
 obtain ⟨d0,d1,d2,d3,d4,d5,df⟩:=HN8.out.cells
 go_wp2_with fail
 refine (HChk.out gl w8 HL8.out _ HV8.out).mono ?_
 rintro e w9 ⟨rfl,h9⟩
 have HS9:=hid (HS8.out.trans h9)
 obtain ⟨n0,n1,n2,nf⟩:=owN (HM8.out.still h9) (i:=0) (by decide)
 simp only [Nat.zero_mul,Nat.zero_add,List.getD_cons_zero] at n0 n1 n2
 clear h9 c0 c1 c2 c3 c4 c5 cf d0 d1 d2 d3 d4 d5 df HP8 HL8 HS8 HV8 HN8 HM8
 go_wp2_with fail
 go_ret
 exact ⟨rfl,HS9.out⟩
abbrev envM (q C R:Int) (s:ByteArray) (v0:Int):Env:=⟨solB C R s,stV C s v0,spV C s v0,q⟩
theorem cfg_nat {p v0:Int} {k:Nat} {l:List Int} (h:CfgP p v0 k l):∃ N:Nat,p=(N:Int)/\2<=N/\N<=6/\N<=k:=⟨p.toNat,by have:=h.1; omega,by have:=h.1; omega,by have:=h.2.1; omega,by have:=h.2.2.2.1; have:=h.1; omega⟩
def WdO (w:World) (B g:Nat) (W:Wd):Prop:=∃ a b c d,Wdb w g W.fr W.nx a b c d/\OwG KM 48 w B a W.ms/\OwG KC 50 w B b W.cs/\OwG KS 52 w B c W.hs/\OwG KQ 54 w B d W.ks
theorem WdO.still {w w':World} {B g:Nat} {W:Wd} (h:WdO w B g W) (hs:Still w w'):WdO w' B g W:=by
 obtain ⟨a,b,c,d,h0,h1,h2,h3,h4⟩:=h
 exact ⟨a,b,c,d,h0.still hs,h1.still hs,h2.still hs,h3.still hs,h4.still hs⟩
theorem WdO.oth {w:World} {B g k:Nat} {W:Wd} (h:WdO w B g W) (hk:Tyk w k 35) (hn:g≠k) (v0 v1 v2 v3 v4 v5:Value):WdO ((((((w.setCell ⟨k,0,none⟩ v0).setCell ⟨k,1,none⟩ v1).setCell ⟨k,2,none⟩ v2).setCell ⟨k,3,none⟩ v3).setCell ⟨k,4,none⟩ v4).setCell ⟨k,5,none⟩ v5) B g W:=by
 obtain ⟨a,b,c,d,h0,h1,h2,h3,h4⟩:=h
 exact ⟨a,b,c,d,(((((h0.other hn).other hn).other hn).other hn).other hn).other hn,h1.set6 hk (by decide) _ _ _ _ _ _,h2.set6 hk (by decide) _ _ _ _ _ _,h3.set6 hk (by decide) _ _ _ _ _ _,h4.set6 hk (by decide) _ _ _ _ _ _⟩
theorem WdO.mk6 {w:World} {B g:Nat} {W:Wd} {f0 x0:Int} {a0 b0 c0 d0:Value} (hz:Wdb w g f0 x0 a0 b0 c0 d0) {fr nx:Int} (hf:W.fr=fr) (hn:W.nx=nx) {a b c d:Value} (h1:OwG KM 48 w B a W.ms) (h2:OwG KC 50 w B b W.cs) (h3:OwG KS 52 w B c W.hs) (h4:OwG KQ 54 w B d W.ks):WdO ((((((w.setCell ⟨g,0,none⟩ (.int .i64 fr)).setCell ⟨g,1,none⟩ a).setCell ⟨g,2,none⟩ b).setCell ⟨g,3,none⟩ c).setCell ⟨g,4,none⟩ d).setCell ⟨g,5,none⟩ (.int .i64 nx)) B g W:=by
 subst hf hn
 exact ⟨a,b,c,d,hz.put _ _ _ _ _ _,h1.set6 hz.ty (by decide) _ _ _ _ _ _,h2.set6 hz.ty (by decide) _ _ _ _ _ _,h3.set6 hz.ty (by decide) _ _ _ _ _ _,h4.set6 hz.ty (by decide) _ _ _ _ _ _⟩
theorem cfb_oth {w:World} {g k:Nat} {F:Cf} (h:Cfb w g F) (hn:g≠k) (v0 v1 v2 v3 v4 v5:Value):Cfb ((((((w.setCell ⟨k,0,none⟩ v0).setCell ⟨k,1,none⟩ v1).setCell ⟨k,2,none⟩ v2).setCell ⟨k,3,none⟩ v3).setCell ⟨k,4,none⟩ v4).setCell ⟨k,5,none⟩ v5) g F:=by
 unfold Cfb at h ⊢
 rw [heap_setCell_other _ _ _ _ hn,heap_setCell_other _ _ _ _ hn,heap_setCell_other _ _ _ _ hn,heap_setCell_other _ _ _ _ hn,heap_setCell_other _ _ _ _ hn,heap_setCell_other _ _ _ _ hn]
 exact h
theorem good_len {N:Nat} {E:Env} {W:Wd} (h:Ha.Good N E W) (hN:N<=6):W.ms.length<=281474976710656/\W.cs.length<=281474976710656/\W.hs.length<=281474976710656/\W.ks.length<=281474976710656 :=
 ⟨by have:=h.1.1; omega,by have:=h.1.2.2.1; omega,by have:=(flo_pw.1 h.2.1).1; omega,by have:=(mayK_pw.1 h.2.2.2.1).2.1; omega⟩
theorem fits_good {N:Nat} {E:Env} {W:Wd} (hG:Ha.Good N E W) (h0:0<=W.fr) (h1:W.fr<=1000):Fits (N:Int) E W :=
 ⟨by rw [Int.toNat_natCast]; exact hG,h0,by omega⟩
theorem stE_good {N:Nat} {v0:Int} {E:Env} {l:List Int} {W:Wd} {cs:List Cm} (hc:CfgP (N:Int) v0 E.st.length l) (hG:Ha.Good N E W) (h0:0<=W.fr) (h1:W.fr<=1000):stE (N:Int) v0 E l W cs=0\/stE (N:Int) v0 E l W cs=132:=by
 unfold stE
 rw [if_neg (not_not_intro hc),if_neg (not_not_intro (fits_good hG h0 h1)),if_neg (by omega)]
 split
 ·exact .inr rfl
 ·exact .inl rfl
theorem owG_max {α:Type} {K:Kd α} {e:TypeId} {w:World} {B:Nat} {v:Value} {L:List α} (h:OwG K e w B v L):L.length<=9223372036854775807:=by
 rcases h.2 with ⟨_,hn⟩ | ⟨g,cap,cur,_,_,_,hn,hm,_⟩
 ·omega
 ·unfold maxLen at hm; omega
theorem cnt_take (f:Nn->Bool) (L:List Nn) (k:Nat) (hk:k<L.length):(L.take (k+1)).countP f=(L.take k).countP f+(if f (L.getD k zNn) then 1 else 0):=by
 rw [List.take_add_one,List.getElem?_eq_getElem hk,show (some L[k]).toList=[L[k]] from rfl,List.countP_append,List.countP_singleton]
 simp [List.getD,hk]
def hitF (p:Nat) (x:Nn):Bool:=x.k == 2 && x.a == (p:Int)
def gdF (p:Nat) (x:Nn):Bool:=(x.k == 2 && x.b == (p:Int)) || ((x.k == 5 && x.a == (p:Int)) && x.b == 3)
def outF (p:Nat) (x:Nn):Bool:=x.k == 3 && x.a == (p:Int)
theorem cnt_pos0 {f:Nn->Bool} {L:List Nn} (h:∃ x∈L,f x=true):((L.countP f:Nat):Int)≠0:=by
 have:=List.countP_pos_iff.2 h
 omega
theorem nw0_o (E:Env) (N p:Nat):(sc (nw0 E N).cs p).o<=48*((0:Nat):Int):=by
 have h:sc (nw0 E N).cs p=zC:=by
  show (List.replicate N zC).getD p zC=zC
  rw [List.getD_eq_getElem?_getD,List.getElem?_replicate]
  split <;> rfl
 rw [h]
 decide
structure FaR (w wx:World) (b3 b8 b12:Nat) (F:Cf) (W:Wd) (G:Gm) (nv:Value):Prop where
 s:Still w wx
 x:WdO wx w.heap.size b12 G.w
 n:OwG KN 44 wx w.heap.size nv G.ns
 o:WdO wx w.heap.size b8 W
 c:Cfb wx b3 F
 lt:b8<b12/\b3<b12
theorem FaR.late {w x:World} {b3 b8:Nat} {F:Cf} {W:Wd} {G:Gm} {nv:Value} {fr nx:Int} {a b c d:Value} (hs:Still w x) (hw:OwW x w.heap.size (.agg (wdcs fr nx a b c d)) G.w) (hn:OwG KN 44 x w.heap.size nv G.ns) (h8:WdO x w.heap.size b8 W) (h3:Cfb x b3 F):FaR w (x.alloc (.cells (wdcs fr nx a b c d) 35)) b3 b8 x.heap.size F W G nv:=by
 have A:=Still.alloc x (.cells (wdcs fr nx a b c d) 35)
 obtain ⟨a',b',c',d',e,p1,p2,p3,p4⟩:=hw
 simp only [Value.agg.injEq,wdcs,Array.mk.injEq,List.cons.injEq,Value.int.injEq,true_and,and_true] at e
 obtain ⟨rfl,rfl,rfl,rfl,rfl,rfl⟩:=e
 have l8:b8<x.heap.size:=by obtain ⟨_,_,_,_,h,_⟩:=h8; exact block_lt h
 exact ⟨hs.trans A,⟨_,_,_,_,newWd_wb x _ _ _ _ _ _,p1.still A,p2.still A,p3.still A,p4.still A⟩,hn.still A,h8.still A,h3.still A,l8,block_lt h3⟩
theorem FaR.early {w x:World} {b3 b8 k:Nat} {F:Cf} {W:Wd} {G:Gm} {nv:Value} {fr nx f0 x0:Int} {a b c d a0 b0 c0 d0:Value} (hs:Still w x) (hw:OwW x w.heap.size (.agg (wdcs fr nx a b c d)) G.w) (hn:OwG KN 44 x w.heap.size nv G.ns) (h8:WdO x w.heap.size b8 W) (h3:Cfb x b3 F) (hz:Wdb x k f0 x0 a0 b0 c0 d0) (hk:w.heap.size<=k) (hl:b8<k/\b3<k):FaR w ((((((x.setCell ⟨k,0,none⟩ (.int .i64 fr)).setCell ⟨k,1,none⟩ a).setCell ⟨k,2,none⟩ b).setCell ⟨k,3,none⟩ c).setCell ⟨k,4,none⟩ d).setCell ⟨k,5,none⟩ (.int .i64 nx)) b3 b8 k F W G nv:=by
 obtain ⟨a',b',c',d',e,p1,p2,p3,p4⟩:=hw
 simp only [Value.agg.injEq,wdcs,Array.mk.injEq,List.cons.injEq,Value.int.injEq,true_and,and_true] at e
 obtain ⟨rfl,rfl,rfl,rfl,rfl,rfl⟩:=e
 exact ⟨still_set6 hs hk _ _ _ _ _ _,WdO.mk6 hz rfl rfl p1 p2 p3 p4,hn.set6 hz.ty (by decide) _ _ _ _ _ _,h8.oth hz.ty (by omega) _ _ _ _ _ _,cfb_oth h3 (by omega) _ _ _ _ _ _,hl⟩
def FaQ (w u w':World) (se:Int) (G:Gm) (e:Ending):Prop:=∃ fr nx za l1 ca zb l2 cb zc l3 cc zd l4 cd zn ln cn,e=.returned (.tuple #[.agg (wdcs fr nx (.slice za l1 ca) (.slice zb l2 cb) (.slice zc l3 cc) (.slice zd l4 cd)),.slice zn ln cn,.int .i64 se])/\(se=0->OwW w' w.heap.size (.agg (wdcs fr nx (.slice za l1 ca) (.slice zb l2 cb) (.slice zc l3 cc) (.slice zd l4 cd))) G.w/\OwG KN 44 w' w.heap.size (.slice zn ln cn) G.ns)/\Still u w'
theorem fa_q {w u w':World} {E:Env} {W:Wd} {cs:List Cm} {se:Int} {e:Ending} (h:StQ u w' E W cs se e) (hb:w.heap.size<=u.heap.size):FaQ w u w' se (frame E W cs) e:=by
 by_cases h0:se=0
 ·obtain ⟨⟨x,nv,he,⟨a,b,c,d,rfl,q1,q2,q3,q4⟩,hn⟩,hs⟩:=h.1 h0
  obtain ⟨za,ca,rfl,_⟩:=q1.slice
  obtain ⟨zb,cb,rfl,_⟩:=q2.slice
  obtain ⟨zc,cc,rfl,_⟩:=q3.slice
  obtain ⟨zd,cd,rfl,_⟩:=q4.slice
  obtain ⟨zn,cn,rfl,_⟩:=hn.slice
  subst h0
  exact ⟨_,_,za,_,ca,zb,_,cb,zc,_,cc,zd,_,cd,zn,_,cn,he,fun _=>⟨⟨_,_,_,_,rfl,q1.less hb,q2.less hb,q3.less hb,q4.less hb⟩,hn.less hb⟩,hs⟩
 ·obtain ⟨he,hs⟩:=h.2 h0
  exact ⟨_,_,_,_,_,_,_,_,_,_,_,_,_,_,_,_,_,he,fun e=>absurd e h0,hs⟩
theorem fair_no (p q C R:Int) (s:ByteArray) (lo:Option Addr) (ln lc:Nat) (l:List Int) (a:Int) (v0:Int) (hv0:ChkV C R s v0) (hc:¬ CfgP p v0 (stV C s v0).length l) (xo:Option Addr) (n xcp:Nat) (w:World) (ht:Tab w) (hd:DTab w) (hr:RdI w lo ln lc l) :
  Calls Tryz.prog 3 #[.agg #[.int .i64 p,.int .u64 q,.int .i64 C,.int .i64 R,.string s,.slice lo ln lc],.int .i64 a,.slice xo n xcp] w fun e w'=>e=.returned (.bool true)/\Still w w':=by
 have HN1:=hid (fun u (hu:Still w u)=>wnew_no p q C R s lo ln lc (envM q C R s v0) l u v0 (q13_of ⟨p,q,C,R,s,.slice lo ln lc⟩ v0 hv0 u) (hr.still hu) hc)
 have A0:=Still.alloc w (.cells #[.int .i64 p,.int .u64 q,.int .i64 C,.int .i64 R,.string s,.slice lo ln lc] 27)
 have HS0:Hid (Still w (w.alloc (.cells #[.int .i64 p,.int .u64 q,.int .i64 C,.int .i64 R,.string s,.slice lo ln lc] 27))):=hid A0
 have HP0:Hid (Cfb (w.alloc (.cells #[.int .i64 p,.int .u64 q,.int .i64 C,.int .i64 R,.string s,.slice lo ln lc] 27)) w.heap.size ⟨p,q,C,R,s,.slice lo ln lc⟩):=hid (newCf_cb w ⟨p,q,C,R,s,.slice lo ln lc⟩)
 have HT:=hid ht
 have HDt:=hid hd
 clear A0 hr hc hv0 ht hd
 go_enter Tryz.func3,Tryz.ntmps3
 go_wp2_with fail
 refine (awake13_any _ (HT.out.still HS0.out) (HDt.out.still HS0.out)).mono ?_
 rintro e w1 ⟨rfl,h1⟩
 have HS1:=hid (HS0.out.trans h1)
 have HP1:=hid (HP0.out.still h1)
 clear h1 HS0 HP0
 obtain ⟨c0,c1,c2,c3,c4,c5,cf⟩:=HP1.out.cells
 dsimp only at c0 c1 c2 c3 c4 c5
 go_wp2_with fail
 refine (HN1.out w1 HS1.out).mono ?_
 rintro e w2 ⟨rfl,h2⟩
 have HS2:=hid (HS1.out.trans (h2.trans (Still.alloc w2 (.cells (wdcs 0 0 (.slice none 0 0) (.slice none 0 0) (.slice none 0 0) (.slice none 0 0)) 35))))
 clear c0 c1 c2 c3 c4 c5 cf h2 HS1 HP1
 go_wp2_with fail
 go_ret
 exact ⟨rfl,HS2.out⟩
def FaI (w wr:World) (b3 b8:Nat) (N:Nat) (E:Env) (F:Cf) (i:Nat):Prop:=∃ W:Wd,W.fr=(i:Int)/\Ha.Good N E W/\(∀ p,(sc W.cs p).o<=48*(i:Int))/\Apt W/\WdO wr w.heap.size b8 W/\Cfb wr b3 F/\Still w wr
theorem fair_yes (N : Nat) (q C R : Int) (s : ByteArray) (lo : Option Addr) (ln lc : Nat) (l : List Int) (a : Int) (v0 : Int) (hv0 : ChkV C R s v0) (hc : CfgP (N : Int) v0 (stV C s v0).length l) (hz : s.size <= 281474976710656) (xo : Option Addr) (n xcp : Nat) (L : List Cm) (g47 : 56 * n <= 140737488351232) (w : World) (ht : Tab w) (hd : DTab w) (hr : RdI w lo ln lc l) (hx : RdG KX w xo n L) :
    Calls Tryz.prog 3 #[.agg #[.int .i64 (N:Int),.int .u64 q,.int .i64 C,.int .i64 R,.string s,.slice lo ln lc],.int .i64 a,.slice xo n xcp] w fun e w'=>e=.returned (.bool true)/\Still w w':=by
  have h16:=spV_few hv0
  have hN6:N<=6:=by have:=hc.2.1; omega
  have HN1:=hid (fun u (hu:Still w u)=>wnew_yes N q C R s lo ln lc (envM q C R s v0) l u v0 (q13_of ⟨(N:Int),q,C,R,s,.slice lo ln lc⟩ v0 hv0 u) (hr.still hu) hc)
  have HT1:=hid (fun u (hu:Still w u) W v (hv:RdW u v W) xo n xcp cs (hx:RdG KX u xo n cs) (h47:(n+300)*24<=140737488355328)=>wStep_any N q C R s lo ln lc (envM q C R s v0) l u v0 (q13_of ⟨(N:Int),q,C,R,s,.slice lo ln lc⟩ v0 hv0 u) (p13_of ⟨(N:Int),q,C,R,s,.slice lo ln lc⟩ hz _ _ u (ht.still hu) (hd.still hu)) (hr.still hu) hc h16 W v hv xo n xcp cs hx h47)
  have HSo:Hid (∀ W cs,Ha.Good N (envM q C R s v0) W->0<=W.fr->W.fr<=1000->stE (N:Int) v0 (envM q C R s v0) l W cs=0\/stE (N:Int) v0 (envM q C R s v0) l W cs=132):=hid (fun W cs hG h0 h1=>stE_good hc hG h0 h1)
  have HGd:Hid (∀ W cs,stE (N:Int) v0 (envM q C R s v0) l W cs=0->∀ y∈cs,Rgt N y):=hid (fun W cs h=>by
    unfold stE at h
    rw [if_neg (not_not_intro hc)] at h
    split at h
    · cases h
    split at h
    · cases h
    split at h
    · cases h
    rename_i hO
    exact ordr_rgt (Classical.not_not.1 hO))
  have HG0:Hid (Ha.Good N (envM q C R s v0) (nw0 (envM q C R s v0) N)):=hid (good_nw0 h16)
  obtain ⟨E,eE⟩:∃ E,envM q C R s v0=E:=⟨_,rfl⟩
  rw [eE] at HN1 HT1 HSo HGd HG0
  clear eE
  have HT:=hid ht
  have HDt:=hid hd
  have HX:=hid hx
  clear hv0 hc hz h16 hr ht hd hx
  have A0:=Still.alloc w (.cells #[.int .i64 (N:Int),.int .u64 q,.int .i64 C,.int .i64 R,.string s,.slice lo ln lc] 27)
  have HS0:Hid (Still w (w.alloc (.cells #[.int .i64 (N:Int),.int .u64 q,.int .i64 C,.int .i64 R,.string s,.slice lo ln lc] 27))):=hid A0
  have HP0:Hid (Cfb (w.alloc (.cells #[.int .i64 (N:Int),.int .u64 q,.int .i64 C,.int .i64 R,.string s,.slice lo ln lc] 27)) w.heap.size ⟨(N:Int),q,C,R,s,.slice lo ln lc⟩):=hid (newCf_cb w ⟨(N:Int),q,C,R,s,.slice lo ln lc⟩)
  clear A0
  go_enter Tryz.func3,Tryz.ntmps3
  go_wp2_with fail
  refine (awake13_any _ (HT.out.still HS0.out) (HDt.out.still HS0.out)).mono ?_
  rintro e w1 ⟨rfl,h1⟩
  have HS1:=hid (HS0.out.trans h1)
  have HP1:=hid (HP0.out.still h1)
  clear h1 HS0 HP0
  obtain ⟨c0,c1,c2,c3,c4,c5,cf⟩:=HP1.out.cells
  dsimp only at c0 c1 c2 c3 c4 c5
  go_wp2_with fail
  refine (HN1.out w1 HS1.out).mono ?_
  rintro e w2 ⟨u,rfl,hW,h2⟩
  obtain ⟨Wn,eWn⟩:∃ W,nw0 E N=W:=⟨_,rfl⟩
  have HWn:Hid (Wn.fr=((0:Nat):Int)/\(∀ p,(sc Wn.cs p).o<=48*((0:Nat):Int))/\Apt Wn):=hid ⟨by rw [<- eWn]; rfl,fun p=>by rw [<- eWn]; exact nw0_o E N p,by rw [<- eWn]; exact fun s hs=>by cases hs⟩
  rw [eWn] at hW HG0
  clear eWn
  obtain ⟨a',b,c,d,rfl,q1,q2,q3,q4⟩:=hW
  obtain ⟨z2a,c2a,rfl,_⟩:=q1.slice
  obtain ⟨z2b,c2b,rfl,_⟩:=q2.slice
  obtain ⟨z2c,c2c,rfl,_⟩:=q3.slice
  obtain ⟨z2d,c2d,rfl,_⟩:=q4.slice
  obtain ⟨k1,e1⟩:∃ k,Wn.ms.length=k:=⟨_,rfl⟩
  obtain ⟨k2,e2⟩:∃ k,Wn.cs.length=k:=⟨_,rfl⟩
  obtain ⟨k3,e3⟩:∃ k,Wn.hs.length=k:=⟨_,rfl⟩
  obtain ⟨k4,e4⟩:∃ k,Wn.ks.length=k:=⟨_,rfl⟩
  obtain ⟨fr,e5⟩:∃ k,Wn.fr=k:=⟨_,rfl⟩
  obtain ⟨nx,e6⟩:∃ k,Wn.nx=k:=⟨_,rfl⟩
  have HE:=hid (And.intro e5 e6)
  rw [e1,e2,e3,e4,e5,e6]
  rw [e1] at q1
  rw [e2] at q2
  rw [e3] at q3
  rw [e4] at q4
  clear e1 e2 e3 e4 e5 e6
  have A2:=Still.alloc w2 (.cells (wdcs fr nx (.slice z2a k1 c2a) (.slice z2b k2 c2b) (.slice z2c k3 c2c) (.slice z2d k4 c2d)) 35)
  have hs3:=h2.trans A2
  have HS3:=hid (HS1.out.trans hs3)
  have HP3:=hid (HP1.out.still hs3)
  have HB1:=hid HS1.out.size
  have HW8:Hid (WdO (w2.alloc (.cells (wdcs fr nx (.slice z2a k1 c2a) (.slice z2b k2 c2b) (.slice z2c k3 c2c) (.slice z2d k4 c2d)) 35)) w.heap.size w2.heap.size Wn):=hid (by
    refine ⟨_,_,_,_, ?_,(q1.still A2).less HB1.out,(q2.still A2).less HB1.out,(q3.still A2).less HB1.out,(q4.still A2).less HB1.out⟩
    rw [HE.out.1,HE.out.2]
    exact newWd_wb w2 fr nx _ _ _ _)
  have HL3:=hid (show w.heap.size<w2.heap.size from Nat.lt_of_lt_of_le (block_lt HP1.out) h2.size)
  obtain ⟨W5,eW5⟩:∃ X,w2.alloc (.cells (wdcs fr nx (.slice z2a k1 c2a) (.slice z2b k2 c2b) (.slice z2c k3 c2c) (.slice z2d k4 c2d)) 35)=X:=⟨_,rfl⟩
  rw [eW5] at HS3 HP3 HW8
  clear q1 q2 q3 q4 A2 hs3 h2 c0 c1 c2 c3 c4 c5 cf HS1 HP1
  obtain ⟨b3,eb3⟩:∃ k,w.heap.size=k:=⟨_,rfl⟩
  obtain ⟨b8,eb8⟩:∃ k,w2.heap.size=k:=⟨_,rfl⟩
  rw [eb8] at HW8 HL3
  rw [eb3] at HP3
  have HBs:=hid (show b3<b8/\w.heap.size=b3 by have:=HL3.out; omega)
  go_wp2_with fail
  clear eW5 eb3 eb8
  go_loopw [10] (fun x10 wr=>∃ i:Nat,i<=300/\x10=.int .i64 (i:Int)/\FaI w wr b3 b8 N E ⟨(N:Int),q,C,R,s,.slice lo ln lc⟩ i) (fun x10 _=>300 - (intOf x10).toNat)
  case atStart=>exact ⟨0,by omega,rfl,Wn,HWn.out.1,HG0.out,HWn.out.2.1,HWn.out.2.2,HW8.out,HP3.out,HS3.out⟩
  case round =>
    obtain ⟨i,hi,rfl,W,hfr,hG,hob,hapt,ho8,hp3,hs⟩:=hrel
    have HS:=hid hs
    by_cases ha:(i:Int)<a
    rotate_left
    · clear hs ho8 hp3 hG hfr hob hapt
      go_wp2_with fail
      go_ret
      exact ⟨rfl,HS.out⟩
    by_cases hin:i<300
    rotate_left
    · have hge:¬ (i:Int)<300:=by omega
      clear hs ho8 hp3 hG hfr hob hapt
      go_wp2_with fail
      go_ret
      exact ⟨rfl,HS.out⟩
    have hlt:(i:Int)<300:=by omega
    obtain ⟨gl1,gl2,gl3,gl4⟩:=good_len hG hN6
    have HO8:=hid ho8
    obtain ⟨b8a,b8b,b8c,b8d,hb8,p1,p2,p3,p4⟩:=ho8
    have hv8:=OwW.rd (show OwW wr w.heap.size _ W from ⟨b8a,b8b,b8c,b8d,rfl,p1,p2,p3,p4⟩) gl1 gl2 gl3 gl4
    obtain ⟨x1a,x1b,rfl,_⟩:=p1.slice
    obtain ⟨x2a,x2b,rfl,_⟩:=p2.slice
    obtain ⟨x3a,x3b,rfl,_⟩:=p3.slice
    obtain ⟨x4a,x4b,rfl,_⟩:=p4.slice
    have HM8:=hid p1
    have HC8:=hid p2
    obtain ⟨m1,em1⟩:∃ k,W.ms.length=k:=⟨_,rfl⟩
    obtain ⟨m2,em2⟩:∃ k,W.cs.length=k:=⟨_,rfl⟩
    obtain ⟨m3,em3⟩:∃ k,W.hs.length=k:=⟨_,rfl⟩
    obtain ⟨m4,em4⟩:∃ k,W.ks.length=k:=⟨_,rfl⟩
    obtain ⟨nxw,enx⟩:∃ k,W.nx=k:=⟨_,rfl⟩
    rw [em1,em2,em3,em4,enx,hfr] at hv8 hb8
    rw [em1] at HM8
    rw [em2] at HC8
    have HEm:=hid (show m1=N/\m2=N by rw [<- em1,<- em2]; exact ⟨hG.1.1,hG.1.2.2.1⟩)
    have hcl:(ofC L ((i:Int)+1)).length<=n:=by
      rw [(ofC_perm L _).length_eq,<- HX.out.1]
      exact List.length_filter_le _ _
    obtain ⟨cs,ecs⟩:∃ k,ofC L ((i:Int)+1)=k:=⟨_,rfl⟩
    obtain ⟨se,ese⟩:∃ k,stE (N:Int) v0 E l W cs=k:=⟨_,rfl⟩
    have hSE:se=0\/se=132:=by rw [<- ese]; exact HSo.out W cs hG (by omega) (by omega)
    have HOf:=hid (fun u (hu:Still wr u)=>rof_any L ((i:Int)+1) xo n xcp (by omega) u (HX.out.still (hs.trans hu)))
    rw [ecs] at HOf hcl
    obtain ⟨m5,em5⟩:∃ k,cs.length=k:=⟨_,rfl⟩
    rw [em5] at hcl
    have HT1':=hid (fun u (hu:Still wr u) xo xcp (hx:RdG KX u xo m5 cs)=>HT1.out u (hs.trans hu) W _ (hv8.still hu) xo m5 xcp cs hx (by omega))
    rw [ese] at HT1'
    have HM5:=hid em5
    have H48:Hid (cs.length<=281474976710656):=hid (by omega)
    have HB8:=hid hb8
    have HP3':=hid hp3
    have HCe:=hid (fun u (hu:Still wr u)=>(hp3.still hu).cells)
    have HBe:=hid (fun u (hu:Still wr u)=>(hb8.still hu).cells)
    have HK8:Hid (b8<wr.heap.size/\b3<wr.heap.size/\w.heap.size<=wr.heap.size):=hid ⟨block_lt hb8,block_lt hp3,hs.size⟩
    have hgd:=HGd.out W cs
    rw [ese] at hgd
    have HG:=hid hG
    have HFr:=hid hfr
    have HOb:=hid hob
    have HAp:=hid hapt
    have n8:wr.heap.size≠b8:=by have:=HK8.out; omega
    have n3:wr.heap.size≠b3:=by have:=HK8.out; omega
    clear hv8 hp3 p1 p2 p3 p4 em1 em2 em3 em4 em5 enx ecs ese hs hG hfr hob hapt gl1 gl2 gl3 gl4 hcl HGd HSo HT1
    obtain ⟨d0,d1,d2,d3,d4,d5,df⟩:=HBe.out wr (Fr.refl _ _)
    obtain ⟨c0,c1,c2,c3,c4,c5,cf⟩:=HCe.out wr (Fr.refl _ _)
    dsimp only at c0 c1 c2 c3 c4 c5
    clear hb8
    have hwi:IntKind.i64.wrap ((i:Int)+1)=(i:Int)+1:=by rw [IntKind.wrap_i64] <;> omega
    obtain ⟨G,eG⟩:∃ G,frame E W cs=G:=⟨_,rfl⟩
    have HTy:=hid (fun u (hu:Still wr u) xo xcp (hx:RdG KX u xo m5 cs)=>(HT1'.out u hu xo xcp hx).mono fun e w' h=>fa_q (w:=w) h (Nat.le_trans HK8.out.2.2 hu.size))
    rw [eG] at HTy
    have HFG:Hid (se=0->FairF W G/\Ha.Good N E G.w/\G.w.fr=(i:Int)+1):=hid (fun h0=>by
      have hfa:=fair_frame (E:=E) hN6 HG.out (hgd h0)
      have hgf:=good_frame (E:=E) hN6 HG.out (hgd h0)
      rw [eG] at hfa hgf
      exact ⟨hfa,hgf.1,by rw [hgf.2,HFr.out]⟩)
    clear HT1' hgd eG
    go_upto_region 8 with fail
    go_cut [11,12,13] (fun v11 v12 v13 wx=>∃ W5 b12 zn nl cn,W5=wx/\v11=.pointer (some ⟨b12,0,none⟩)/\v12=.slice zn nl cn/\v13=.int .i64 se/\Still wr W5/\(se=0->FaR w W5 b3 b8 b12 ⟨(N:Int),q,C,R,s,.slice lo ln lc⟩ W G (.slice zn nl cn)))
    case first =>
      as_aux_lemma =>
        go_region_held3 (fun w'=>w'.cell? ⟨b3,0,none⟩=some (.int .i64 (N:Int))/\w'.cell? ⟨b3,1,none⟩=some (.int .u64 q)/\w'.cell? ⟨b3,2,none⟩=some (.int .i64 C)/\w'.cell? ⟨b3,3,none⟩=some (.int .i64 R)/\w'.cell? ⟨b3,4,none⟩=some (.string s)/\w'.cell? ⟨b3,5,none⟩=some (.slice lo ln lc)/\w'.cell? ⟨b8,0,none⟩=some (.int .i64 (i:Int))/\w'.cell? ⟨b8,1,none⟩=some (.slice x1a m1 x1b)/\w'.cell? ⟨b8,2,none⟩=some (.slice x2a m2 x2b)/\w'.cell? ⟨b8,3,none⟩=some (.slice x3a m3 x3b)/\w'.cell? ⟨b8,4,none⟩=some (.slice x4a m4 x4b)/\w'.cell? ⟨b8,5,none⟩=some (.int .i64 nxw)) (go_keep)
          (first
            | (go_at_call 8
               refine (HOf.out _ (by repeat (first | exact Fr.refl _ _ | refine Fr.drew ?_ | refine Fr.alloc ?_ _))).mono ?_
               rintro e x1 ⟨v5,rfl,ox,g1⟩
               obtain ⟨xo5,xc5,hv5,_⟩:=ox.slice
               rw [HM5.out] at hv5
               subst hv5
               have HX1:Hid (Still wr x1):=hid (by refine Still.trans ?_ g1; repeat (first | exact Fr.refl _ _ | refine Fr.drew ?_ | refine Fr.alloc ?_ _))
               have HX5:Hid (RdG KX x1 xo5 m5 cs):=hid (by have h:=owG_rd ox H48.out; rw [HM5.out] at h; exact h)
               obtain ⟨e0,e1,e2,e3,e4,e5,_⟩:=HCe.out x1 HX1.out
               (try dsimp only at e0 e1 e2 e3 e4 e5)
               obtain ⟨u0,u1,u2,u3,u4,u5,_⟩:=HBe.out x1 HX1.out
               have m8:x1.heap.size≠b8:=by have:=HX1.out.size; have:=HK8.out; omega
               have m3':x1.heap.size≠b3:=by have:=HX1.out.size; have:=HK8.out; omega
               try (have z1:Wdb x1 wr.heap.size 0 0 (.slice none 0 0) (.slice none 0 0) (.slice none 0 0) (.slice none 0 0):=Fr.kept_still (Still.undrew g1) (heap_alloc_new wr _); obtain ⟨y0,y1,y2,y3,y4,y5,yf⟩:=z1.cells)
               clear ox g1)
            | (go_at_call 7
               refine (HTy.out _ (by repeat (first | exact HX1.out | refine Fr.drew ?_ | refine Fr.alloc ?_ _)) xo5 xc5 (HX5.out.still (by repeat (first | exact Fr.refl _ _ | refine Fr.drew ?_ | refine Fr.alloc ?_ _)))).mono ?_
               rintro e x2 ⟨fr1,nx1,za,l1,ca,zb,l2,cb,zc,l3,cc,zd,l4,cd,zn,nl,cn,rfl,hW6,g2⟩
               have HX2:Hid (Still wr x2):=hid (by refine Still.trans ?_ g2; repeat (first | exact HX1.out | refine Fr.drew ?_ | refine Fr.alloc ?_ _))
               obtain ⟨e0,e1,e2,e3,e4,e5,_⟩:=HCe.out x2 HX2.out
               (try dsimp only at e0 e1 e2 e3 e4 e5)
               obtain ⟨u0,u1,u2,u3,u4,u5,_⟩:=HBe.out x2 HX2.out
               have n8':x2.heap.size≠b8:=by have:=HX2.out.size; have:=HK8.out; omega
               have n3':x2.heap.size≠b3:=by have:=HX2.out.size; have:=HK8.out; omega
               try (have z2:=z1.still g2; obtain ⟨y0,y1,y2,y3,y4,y5,yf⟩:=z2.cells)
               try (have z3:Wdb x2 x1.heap.size 0 0 (.slice none 0 0) (.slice none 0 0) (.slice none 0 0) (.slice none 0 0):=Fr.kept_still g2 (heap_alloc_new x1 _); obtain ⟨v0,v1,v2,v3,v4,v5,vf⟩:=z3.cells)
               have HW6:=hid hW6
               clear hW6
               clear g2))
        · go_wp2_with fail
          go_meet
          exact ⟨_,x2.heap.size,zn,nl,cn,rfl,rfl,rfl,rfl,HX2.out.trans (Still.alloc x2 _),fun hs0=>FaR.late (HS.out.trans HX2.out) (HW6.out hs0).1 (HW6.out hs0).2 (HO8.out.still HX2.out) (HP3'.out.still HX2.out)⟩
        · go_wp2_with fail
          go_meet
          exact ⟨_,x1.heap.size,zn,nl,cn,rfl,rfl,rfl,rfl,still_set6 HX2.out HX1.out.size _ _ _ _ _ _,fun hs0=>FaR.early (HS.out.trans HX2.out) (HW6.out hs0).1 (HW6.out hs0).2 (HO8.out.still HX2.out) (HP3'.out.still HX2.out) z3 (Nat.le_trans HS.out.size HX1.out.size) (by have:=HK8.out; have:=HX1.out.size; omega)⟩
        · go_wp2_with fail
          go_meet
          exact ⟨_,wr.heap.size,zn,nl,cn,rfl,rfl,rfl,rfl,still_set6 HX2.out (Nat.le_refl _) _ _ _ _ _ _,fun hs0=>FaR.early (HS.out.trans HX2.out) (HW6.out hs0).1 (HW6.out hs0).2 (HO8.out.still HX2.out) (HP3'.out.still HX2.out) z2 HS.out.size (by have:=HK8.out; omega)⟩
    case rest =>
      obtain ⟨W5,b12,zn,nl,cn,rfl,rfl,rfl,rfl,hsx,hR'⟩:=hcut
      by_cases hse:se=0
      rotate_left
      · obtain rfl:se=132:=by rcases hSE with h | h; exact absurd h hse; exact h
        have HSx:=hid (HS.out.trans hsx)
        clear hsx hR' d0 d1 d2 d3 d4 d5 df c0 c1 c2 c3 c4 c5 cf hse hSE
        go_wp2_with fail
        go_ret
        exact ⟨rfl,HSx.out⟩
      · obtain ⟨hfa,hgg,hgfr⟩:=HFG.out hse
        have hR:=hR' hse
        subst hse
        obtain rfl:nl=G.ns.length:=(owG_len hR.n).1
        obtain ⟨j1,ej1⟩:∃ k,G.w.ms.length=k:=⟨_,rfl⟩
        obtain ⟨j2,ej2⟩:∃ k,G.w.cs.length=k:=⟨_,rfl⟩
        obtain ⟨j3,ej3⟩:∃ k,G.w.hs.length=k:=⟨_,rfl⟩
        obtain ⟨j4,ej4⟩:∃ k,G.w.ks.length=k:=⟨_,rfl⟩
        obtain ⟨jn,ejn⟩:∃ k,G.ns.length=k:=⟨_,rfl⟩
        obtain ⟨nx',ej6⟩:∃ k,G.w.nx=k:=⟨_,rfl⟩
        rw [ejn] at hR ⊢
        have HJ:=hid (And.intro ej1 (And.intro ej2 (And.intro ej3 (And.intro ej4 (And.intro ejn (And.intro hgfr ej6))))))
        have HFa:=hid hfa
        have HGg:=hid hgg
        clear ej1 ej2 ej3 ej4 ejn ej6 hfa hgg hgfr hsx hR' hSE HFG
        clear d0 d1 d2 d3 d4 d5 df c0 c1 c2 c3 c4 c5 cf n8 n3 HOf HTy HCe HBe HP3' HB8 HO8 HM8 HC8
        obtain ⟨hs5,⟨xa,xb,xc,xd,hz,r1,r2,r3,r4⟩,rn,⟨oa,ob,oc,od,h8,t1,t2,t3,t4⟩,hc5,hlt5⟩:=hR
        obtain ⟨za,ca,rfl,_⟩:=r1.slice
        obtain ⟨zb,cb,rfl,_⟩:=r2.slice
        obtain ⟨zc,cc,rfl,_⟩:=r3.slice
        obtain ⟨zd,cd,rfl,_⟩:=r4.slice
        obtain ⟨ya,ka,rfl,_⟩:=t1.slice
        obtain ⟨yb,kb,rfl,_⟩:=t2.slice
        obtain ⟨yc,kc,rfl,_⟩:=t3.slice
        obtain ⟨yd,kd,rfl,_⟩:=t4.slice
        rw [HJ.out.1,HJ.out.2.1,HJ.out.2.2.1,HJ.out.2.2.2.1,HJ.out.2.2.2.2.2.1,HJ.out.2.2.2.2.2.2] at hz
        have eN:j1=N/\j2=N:=by rw [<- HJ.out.1,<- HJ.out.2.1]; exact ⟨HGg.out.1.1,HGg.out.1.2.2.1⟩
        have wN:W.ms.length=N/\W.cs.length=N:=⟨HG.out.1.1,HG.out.1.2.2.1⟩
        rw [eN.1,eN.2] at hz
        rw [wN.1,wN.2] at h8
        rw [HGg.out.1.1] at r1
        rw [HGg.out.1.2.2.1] at r2
        rw [HJ.out.2.2.1] at r3
        rw [HJ.out.2.2.2.1] at r4
        rw [wN.1] at t1
        rw [wN.2] at t2
        obtain ⟨k3,ek3⟩:∃ k,W.hs.length=k:=⟨_,rfl⟩
        obtain ⟨k4,ek4⟩:∃ k,W.ks.length=k:=⟨_,rfl⟩
        rw [ek3,ek4,HFr.out] at h8
        obtain ⟨nw,enw⟩:∃ k,W.nx=k:=⟨_,rfl⟩
        rw [enw] at h8
        have HZ:=hid hz
        have H8:=hid h8
        have HRs:=hid (And.intro r1 (And.intro r2 (And.intro r3 r4)))
        have HTs:=hid (And.intro t1 t2)
        have HRn:=hid rn
        have HC5:=hid hc5
        have HS5:=hid hs5
        have HLt:=hid hlt5
        have HGl:=hid (And.intro HGg.out.1.1 HGg.out.1.2.2.1)
        have HWl:=hid wN
        have HNl:=hid HJ.out.2.2.2.2.1
        clear hz h8 r1 r2 r3 r4 rn t1 t2 t3 t4 hc5 hs5 hlt5 eN wN ek3 ek4 enw
        go_wp2_with fail
        go_loopw [14] (fun u wr=>∃ p:Nat,p<=N/\u=.int .i64 (p:Int)/\Hid (Still W5 wr)) (fun u _=>N - (intOf u).toNat)
        case atStart=>exact ⟨0,by omega,rfl,hid (Fr.refl _ _)⟩
        case round =>
          obtain ⟨p,hp,rfl,HI⟩:=hrel
          obtain ⟨d0,d1,d2,d3,d4,d5,df⟩:=(HZ.out.still HI.out).cells
          by_cases hpN:p<N
          · have hltp:(p:Int)<(N:Int):=by omega
            have hp0:(0:Int)<=(p:Int):=by omega
            go_wp2_with fail
            clear d0 d1 d2 d3 d4 d5 df
            go_loopw [15,16,17,18] (fun u15 u16 u17 u18 wr=>∃ kk:Nat,kk<=jn/\u15=.int .i64 (((G.ns.take kk).countP (hitF p):Nat):Int)/\u16=.int .i64 (((G.ns.take kk).countP (gdF p):Nat):Int)/\u17=.int .i64 (((G.ns.take kk).countP (outF p):Nat):Int)/\u18=.int .i64 (kk:Int)/\Hid (Still W5 wr)) (fun _ _ _ u _=>jn - (intOf u).toNat)
            case atStart=>exact ⟨0,by omega,rfl,rfl,rfl,rfl,HI⟩
            case round =>
              obtain ⟨kk,hkk,rfl,rfl,rfl,rfl,HI2⟩:=hrel
              have hjn:jn<=9223372036854775807:=by rw [<- HNl.out]; exact owG_max HRn.out
              by_cases hkn:kk<jn
              · have hltk:(kk:Int)<(jn:Int):=by omega
                have hk0:(0:Int)<=(kk:Int):=by omega
                have hrn:=HRn.out.still HI2.out
                obtain ⟨gN,cgN,hv,_,_⟩:=hrn.head (by rw [HNl.out]; omega)
                simp only [Value.slice.injEq] at hv
                obtain ⟨rfl,hv3,hv4⟩:=hv
                obtain ⟨c0,c1,c2,cf⟩:=owN hrn (i:=kk) (by rw [HNl.out]; omega)
                have HCt:=hid (fun f=>cnt_take f G.ns kk (by rw [HNl.out]; omega))
                obtain ⟨⟨nk,na,nb⟩,ex⟩:∃ x,G.ns.getD kk zNn=x:=⟨_,rfl⟩
                rw [ex] at c0 c1 c2 HCt
                have b1:(G.ns.take kk).countP (hitF p)<=kk:=Nat.le_trans List.countP_le_length (by rw [List.length_take]; omega)
                have b2:(G.ns.take kk).countP (gdF p)<=kk:=Nat.le_trans List.countP_le_length (by rw [List.length_take]; omega)
                have b3':(G.ns.take kk).countP (outF p)<=kk:=Nat.le_trans List.countP_le_length (by rw [List.length_take]; omega)
                have A2:=Still.alloc wr (.cells #[.int .i64 nk,.int .i64 na,.int .i64 nb] 44)
                have HS2:=hid (HI2.out.trans A2)
                clear ex hrn hv3 hv4 A2
                by_cases k2:nk=2
                · have q2:(nk == 2)=true:=beq_iff_eq.2 k2
                  have q3:(nk == 3)=false:=beq_eq_false_iff_ne.2 (by omega)
                  have q5:(nk == 5)=false:=beq_eq_false_iff_ne.2 (by omega)
                  clear k2
                  by_cases ka:na=(p:Int)
                  · have qa:(na == (p:Int))=true:=beq_iff_eq.2 ka
                    clear ka
                    by_cases kb:nb=(p:Int)
                    · have qb:(nb == (p:Int))=true:=beq_iff_eq.2 kb
                      clear kb
                      have EH:Hid (((G.ns.take (kk+1)).countP (hitF p):Nat)=(G.ns.take kk).countP (hitF p)+1):=hid (by rw [HCt.out (hitF p)]; unfold hitF; (try rw [q2]); (try rw [q3]); (try rw [q5]); (try rw [qa]); (try rw [qb]); rfl)
                      have EG:Hid (((G.ns.take (kk+1)).countP (gdF p):Nat)=(G.ns.take kk).countP (gdF p)+1):=hid (by rw [HCt.out (gdF p)]; unfold gdF; (try rw [q2]); (try rw [q3]); (try rw [q5]); (try rw [qa]); (try rw [qb]); rfl)
                      have EO:Hid (((G.ns.take (kk+1)).countP (outF p):Nat)=(G.ns.take kk).countP (outF p)):=hid (by rw [HCt.out (outF p)]; unfold outF; (try rw [q2]); (try rw [q3]); (try rw [q5]); (try rw [qa]); (try rw [qb]); rfl)
                      clear HCt HI2
                      as_aux_lemma =>
                        go_wp2_with fail
                        go_roundw
                        case rel=>exact ⟨kk+1,by omega,by (rw [EH.out]) <;> go_num,by (rw [EG.out]) <;> go_num,by (rw [EO.out]) <;> go_num,by go_num,HS2⟩
                        case measure=>first | (simp [intOf]; done) | (simp [intOf]; omega)
                    · have qb:(nb == (p:Int))=false:=beq_eq_false_iff_ne.2 kb
                      clear kb
                      have EH:Hid (((G.ns.take (kk+1)).countP (hitF p):Nat)=(G.ns.take kk).countP (hitF p)+1):=hid (by rw [HCt.out (hitF p)]; unfold hitF; (try rw [q2]); (try rw [q3]); (try rw [q5]); (try rw [qa]); (try rw [qb]); rfl)
                      have EG:Hid (((G.ns.take (kk+1)).countP (gdF p):Nat)=(G.ns.take kk).countP (gdF p)):=hid (by rw [HCt.out (gdF p)]; unfold gdF; (try rw [q2]); (try rw [q3]); (try rw [q5]); (try rw [qa]); (try rw [qb]); rfl)
                      have EO:Hid (((G.ns.take (kk+1)).countP (outF p):Nat)=(G.ns.take kk).countP (outF p)):=hid (by rw [HCt.out (outF p)]; unfold outF; (try rw [q2]); (try rw [q3]); (try rw [q5]); (try rw [qa]); (try rw [qb]); rfl)
                      clear HCt HI2
                      as_aux_lemma =>
                        go_wp2_with fail
                        go_roundw
                        case rel=>exact ⟨kk+1,by omega,by (rw [EH.out]) <;> go_num,by (rw [EG.out]) <;> go_num,by (rw [EO.out]) <;> go_num,by go_num,HS2⟩
                        case measure=>first | (simp [intOf]; done) | (simp [intOf]; omega)
                  · have qa:(na == (p:Int))=false:=beq_eq_false_iff_ne.2 ka
                    clear ka
                    by_cases kb:nb=(p:Int)
                    · have qb:(nb == (p:Int))=true:=beq_iff_eq.2 kb
                      clear kb
                      have EH:Hid (((G.ns.take (kk+1)).countP (hitF p):Nat)=(G.ns.take kk).countP (hitF p)):=hid (by rw [HCt.out (hitF p)]; unfold hitF; (try rw [q2]); (try rw [q3]); (try rw [q5]); (try rw [qa]); (try rw [qb]); rfl)
                      have EG:Hid (((G.ns.take (kk+1)).countP (gdF p):Nat)=(G.ns.take kk).countP (gdF p)+1):=hid (by rw [HCt.out (gdF p)]; unfold gdF; (try rw [q2]); (try rw [q3]); (try rw [q5]); (try rw [qa]); (try rw [qb]); rfl)
                      have EO:Hid (((G.ns.take (kk+1)).countP (outF p):Nat)=(G.ns.take kk).countP (outF p)):=hid (by rw [HCt.out (outF p)]; unfold outF; (try rw [q2]); (try rw [q3]); (try rw [q5]); (try rw [qa]); (try rw [qb]); rfl)
                      clear HCt HI2
                      as_aux_lemma =>
                        go_wp2_with fail
                        go_roundw
                        case rel=>exact ⟨kk+1,by omega,by (rw [EH.out]) <;> go_num,by (rw [EG.out]) <;> go_num,by (rw [EO.out]) <;> go_num,by go_num,HS2⟩
                        case measure=>first | (simp [intOf]; done) | (simp [intOf]; omega)
                    · have qb:(nb == (p:Int))=false:=beq_eq_false_iff_ne.2 kb
                      clear kb
                      have EH:Hid (((G.ns.take (kk+1)).countP (hitF p):Nat)=(G.ns.take kk).countP (hitF p)):=hid (by rw [HCt.out (hitF p)]; unfold hitF; (try rw [q2]); (try rw [q3]); (try rw [q5]); (try rw [qa]); (try rw [qb]); rfl)
                      have EG:Hid (((G.ns.take (kk+1)).countP (gdF p):Nat)=(G.ns.take kk).countP (gdF p)):=hid (by rw [HCt.out (gdF p)]; unfold gdF; (try rw [q2]); (try rw [q3]); (try rw [q5]); (try rw [qa]); (try rw [qb]); rfl)
                      have EO:Hid (((G.ns.take (kk+1)).countP (outF p):Nat)=(G.ns.take kk).countP (outF p)):=hid (by rw [HCt.out (outF p)]; unfold outF; (try rw [q2]); (try rw [q3]); (try rw [q5]); (try rw [qa]); (try rw [qb]); rfl)
                      clear HCt HI2
                      as_aux_lemma =>
                        go_wp2_with fail
                        go_roundw
                        case rel=>exact ⟨kk+1,by omega,by (rw [EH.out]) <;> go_num,by (rw [EG.out]) <;> go_num,by (rw [EO.out]) <;> go_num,by go_num,HS2⟩
                        case measure=>first | (simp [intOf]; done) | (simp [intOf]; omega)
                · have q2:(nk == 2)=false:=beq_eq_false_iff_ne.2 k2
                  clear k2
                  by_cases k3:nk=3
                  · have q3:(nk == 3)=true:=beq_iff_eq.2 k3
                    have q5:(nk == 5)=false:=beq_eq_false_iff_ne.2 (by omega)
                    clear k3
                    by_cases ka:na=(p:Int)
                    · have qa:(na == (p:Int))=true:=beq_iff_eq.2 ka
                      clear ka
                      have EH:Hid (((G.ns.take (kk+1)).countP (hitF p):Nat)=(G.ns.take kk).countP (hitF p)):=hid (by rw [HCt.out (hitF p)]; unfold hitF; (try rw [q2]); (try rw [q3]); (try rw [q5]); (try rw [qa]); rfl)
                      have EG:Hid (((G.ns.take (kk+1)).countP (gdF p):Nat)=(G.ns.take kk).countP (gdF p)):=hid (by rw [HCt.out (gdF p)]; unfold gdF; (try rw [q2]); (try rw [q3]); (try rw [q5]); (try rw [qa]); rfl)
                      have EO:Hid (((G.ns.take (kk+1)).countP (outF p):Nat)=(G.ns.take kk).countP (outF p)+1):=hid (by rw [HCt.out (outF p)]; unfold outF; (try rw [q2]); (try rw [q3]); (try rw [q5]); (try rw [qa]); rfl)
                      clear HCt HI2
                      as_aux_lemma =>
                        go_wp2_with fail
                        go_roundw
                        case rel=>exact ⟨kk+1,by omega,by (rw [EH.out]) <;> go_num,by (rw [EG.out]) <;> go_num,by (rw [EO.out]) <;> go_num,by go_num,HS2⟩
                        case measure=>first | (simp [intOf]; done) | (simp [intOf]; omega)
                    · have qa:(na == (p:Int))=false:=beq_eq_false_iff_ne.2 ka
                      clear ka
                      have EH:Hid (((G.ns.take (kk+1)).countP (hitF p):Nat)=(G.ns.take kk).countP (hitF p)):=hid (by rw [HCt.out (hitF p)]; unfold hitF; (try rw [q2]); (try rw [q3]); (try rw [q5]); (try rw [qa]); rfl)
                      have EG:Hid (((G.ns.take (kk+1)).countP (gdF p):Nat)=(G.ns.take kk).countP (gdF p)):=hid (by rw [HCt.out (gdF p)]; unfold gdF; (try rw [q2]); (try rw [q3]); (try rw [q5]); (try rw [qa]); rfl)
                      have EO:Hid (((G.ns.take (kk+1)).countP (outF p):Nat)=(G.ns.take kk).countP (outF p)):=hid (by rw [HCt.out (outF p)]; unfold outF; (try rw [q2]); (try rw [q3]); (try rw [q5]); (try rw [qa]); rfl)
                      clear HCt HI2
                      as_aux_lemma =>
                        go_wp2_with fail
                        go_roundw
                        case rel=>exact ⟨kk+1,by omega,by (rw [EH.out]) <;> go_num,by (rw [EG.out]) <;> go_num,by (rw [EO.out]) <;> go_num,by go_num,HS2⟩
                        case measure=>first | (simp [intOf]; done) | (simp [intOf]; omega)
                  · have q3:(nk == 3)=false:=beq_eq_false_iff_ne.2 k3
                    clear k3
                    by_cases k5:nk=5
                    · have q5:(nk == 5)=true:=beq_iff_eq.2 k5
                      clear k5
                      by_cases ka:na=(p:Int)
                      · have qa:(na == (p:Int))=true:=beq_iff_eq.2 ka
                        clear ka
                        by_cases kb:nb=3
                        · have qb:(nb == 3)=true:=beq_iff_eq.2 kb
                          clear kb
                          have EH:Hid (((G.ns.take (kk+1)).countP (hitF p):Nat)=(G.ns.take kk).countP (hitF p)):=hid (by rw [HCt.out (hitF p)]; unfold hitF; (try rw [q2]); (try rw [q3]); (try rw [q5]); (try rw [qa]); (try rw [qb]); rfl)
                          have EG:Hid (((G.ns.take (kk+1)).countP (gdF p):Nat)=(G.ns.take kk).countP (gdF p)+1):=hid (by rw [HCt.out (gdF p)]; unfold gdF; (try rw [q2]); (try rw [q3]); (try rw [q5]); (try rw [qa]); (try rw [qb]); rfl)
                          have EO:Hid (((G.ns.take (kk+1)).countP (outF p):Nat)=(G.ns.take kk).countP (outF p)):=hid (by rw [HCt.out (outF p)]; unfold outF; (try rw [q2]); (try rw [q3]); (try rw [q5]); (try rw [qa]); (try rw [qb]); rfl)
                          clear HCt HI2
                          as_aux_lemma =>
                            go_wp2_with fail
                            go_roundw
                            case rel=>exact ⟨kk+1,by omega,by (rw [EH.out]) <;> go_num,by (rw [EG.out]) <;> go_num,by (rw [EO.out]) <;> go_num,by go_num,HS2⟩
                            case measure=>first | (simp [intOf]; done) | (simp [intOf]; omega)
                        · have qb:(nb == 3)=false:=beq_eq_false_iff_ne.2 kb
                          clear kb
                          have EH:Hid (((G.ns.take (kk+1)).countP (hitF p):Nat)=(G.ns.take kk).countP (hitF p)):=hid (by rw [HCt.out (hitF p)]; unfold hitF; (try rw [q2]); (try rw [q3]); (try rw [q5]); (try rw [qa]); (try rw [qb]); rfl)
                          have EG:Hid (((G.ns.take (kk+1)).countP (gdF p):Nat)=(G.ns.take kk).countP (gdF p)):=hid (by rw [HCt.out (gdF p)]; unfold gdF; (try rw [q2]); (try rw [q3]); (try rw [q5]); (try rw [qa]); (try rw [qb]); rfl)
                          have EO:Hid (((G.ns.take (kk+1)).countP (outF p):Nat)=(G.ns.take kk).countP (outF p)):=hid (by rw [HCt.out (outF p)]; unfold outF; (try rw [q2]); (try rw [q3]); (try rw [q5]); (try rw [qa]); (try rw [qb]); rfl)
                          clear HCt HI2
                          as_aux_lemma =>
                            go_wp2_with fail
                            go_roundw
                            case rel=>exact ⟨kk+1,by omega,by (rw [EH.out]) <;> go_num,by (rw [EG.out]) <;> go_num,by (rw [EO.out]) <;> go_num,by go_num,HS2⟩
                            case measure=>first | (simp [intOf]; done) | (simp [intOf]; omega)
                      · have qa:(na == (p:Int))=false:=beq_eq_false_iff_ne.2 ka
                        clear ka
                        have EH:Hid (((G.ns.take (kk+1)).countP (hitF p):Nat)=(G.ns.take kk).countP (hitF p)):=hid (by rw [HCt.out (hitF p)]; unfold hitF; (try rw [q2]); (try rw [q3]); (try rw [q5]); (try rw [qa]); rfl)
                        have EG:Hid (((G.ns.take (kk+1)).countP (gdF p):Nat)=(G.ns.take kk).countP (gdF p)):=hid (by rw [HCt.out (gdF p)]; unfold gdF; (try rw [q2]); (try rw [q3]); (try rw [q5]); (try rw [qa]); rfl)
                        have EO:Hid (((G.ns.take (kk+1)).countP (outF p):Nat)=(G.ns.take kk).countP (outF p)):=hid (by rw [HCt.out (outF p)]; unfold outF; (try rw [q2]); (try rw [q3]); (try rw [q5]); (try rw [qa]); rfl)
                        clear HCt HI2
                        as_aux_lemma =>
                          go_wp2_with fail
                          go_roundw
                          case rel=>exact ⟨kk+1,by omega,by (rw [EH.out]) <;> go_num,by (rw [EG.out]) <;> go_num,by (rw [EO.out]) <;> go_num,by go_num,HS2⟩
                          case measure=>first | (simp [intOf]; done) | (simp [intOf]; omega)
                    · have q5:(nk == 5)=false:=beq_eq_false_iff_ne.2 k5
                      clear k5
                      have EH:Hid (((G.ns.take (kk+1)).countP (hitF p):Nat)=(G.ns.take kk).countP (hitF p)):=hid (by rw [HCt.out (hitF p)]; unfold hitF; (try rw [q2]); (try rw [q3]); (try rw [q5]); rfl)
                      have EG:Hid (((G.ns.take (kk+1)).countP (gdF p):Nat)=(G.ns.take kk).countP (gdF p)):=hid (by rw [HCt.out (gdF p)]; unfold gdF; (try rw [q2]); (try rw [q3]); (try rw [q5]); rfl)
                      have EO:Hid (((G.ns.take (kk+1)).countP (outF p):Nat)=(G.ns.take kk).countP (outF p)):=hid (by rw [HCt.out (outF p)]; unfold outF; (try rw [q2]); (try rw [q3]); (try rw [q5]); rfl)
                      clear HCt HI2
                      as_aux_lemma =>
                        go_wp2_with fail
                        go_roundw
                        case rel=>exact ⟨kk+1,by omega,by (rw [EH.out]) <;> go_num,by (rw [EG.out]) <;> go_num,by (rw [EO.out]) <;> go_num,by go_num,HS2⟩
                        case measure=>first | (simp [intOf]; done) | (simp [intOf]; omega)
              · have hge:¬ (kk:Int)<(jn:Int):=by omega
                obtain rfl:kk=jn:=by omega
                rw [List.take_of_length_le (by rw [HNl.out]; exact Nat.le_refl _)]
                have hO:=HFa.out.outs (p:=p) (by have:=HOb.out p; omega)
                have eO:(outsN G.ns p:Int)=((G.ns.countP (outF p):Nat):Int):=rfl
                rw [eO] at hO
                have HL20:Hid ((mm G.w.ms p).hl<(mm W.ms p).hl->(((G.ns.countP (hitF p):Nat):Int) == 0)=false):=hid (fun h=>by
                  obtain ⟨x,hx,e1,e2⟩:=HFa.out.told.hl p h
                  exact beq_eq_false_iff_ne.2 (cnt_pos0 ⟨x,hx,by unfold hitF; simp [e1,e2]⟩))
                have HL21:Hid ((sc W.cs p).p<(sc G.w.cs p).p->(((G.ns.countP (gdF p):Nat):Int) == 0)=false):=hid (fun h=>by
                  obtain ⟨x,hx,h2⟩:=HFa.out.told.up p h
                  refine beq_eq_false_iff_ne.2 (cnt_pos0 ⟨x,hx, ?_⟩)
                  unfold gdF
                  rcases h2 with ⟨e1,e2⟩ | ⟨e1,e2,e3⟩
                  · simp [e1,e2]
                  · simp [e1,e2,e3])
                have HL22:Hid ((sc G.w.cs p).p<(sc W.cs p).p->(((G.ns.countP (outF p):Nat):Int) == 0)=false):=hid (fun h=>by
                  obtain ⟨x,hx,e1,e2⟩:=HFa.out.told.dn p h
                  exact beq_eq_false_iff_ne.2 (cnt_pos0 ⟨x,hx,by unfold outF; simp [e1,e2]⟩))
                have hOw:=(seats_o HG.out.1 p).1
                have hOb2:=HOb.out p
                have hOx:=(seats_o HGg.out.1 p).2
                obtain ⟨gm,cgm,hv,_,_⟩:=HRs.out.1.head (by rw [HGl.out.1]; omega)
                obtain ⟨gc,cgc,hv2,_,_⟩:=HRs.out.2.1.head (by rw [HGl.out.2]; omega)
                obtain ⟨hm,chm,hv3,_,_⟩:=HTs.out.1.head (by rw [HWl.out.1]; omega)
                obtain ⟨hc,chc,hv4,_,_⟩:=HTs.out.2.head (by rw [HWl.out.2]; omega)
                simp only [Value.slice.injEq] at hv hv2 hv3 hv4
                have HV:Hid (∀ u,Still W5 u->(u.cell? ⟨b12,1,none⟩=some (.slice (some ⟨gm,0,none⟩) N ca)/\u.cell? ⟨b12,2,none⟩=some (.slice (some ⟨gc,0,none⟩) N cb)/\u.cell? ⟨b8,1,none⟩=some (.slice (some ⟨hm,0,none⟩) N ka)/\u.cell? ⟨b8,2,none⟩=some (.slice (some ⟨hc,0,none⟩) N kb))/\u.cell? ⟨gm,p*13+7,none⟩=some (.int .i64 (mm G.w.ms p).hl)/\u.cell? ⟨hm,p*13+7,none⟩=some (.int .i64 (mm W.ms p).hl)/\u.cell? ⟨gc,p*4,none⟩=some (.int .i64 (sc G.w.cs p).p)/\u.cell? ⟨hc,p*4,none⟩=some (.int .i64 (sc W.cs p).p)/\u.cell? ⟨gc,p*4+2,none⟩=some (.int .i64 (sc G.w.cs p).o)/\u.cell? ⟨hc,p*4+2,none⟩=some (.int .i64 (sc W.cs p).o)):=hid (fun u hu=>by
                  obtain ⟨_,d1,d2,_⟩:=(HZ.out.still hu).cells
                  obtain ⟨_,f1,f2,_⟩:=(H8.out.still hu).cells
                  obtain ⟨r1,r2,_⟩:=HRs.out
                  obtain ⟨t1,t2⟩:=HTs.out
                  obtain ⟨e1,_,_⟩:=hv
                  obtain ⟨e2,_,_⟩:=hv2
                  obtain ⟨e3,_,_⟩:=hv3
                  obtain ⟨e4,_,_⟩:=hv4
                  subst e1 e2 e3 e4
                  exact ⟨⟨d1,d2,f1,f2⟩,(r1.still hu).get (by rw [HGl.out.1]; exact hpN) 7 _ rfl,(t1.still hu).get (by rw [HWl.out.1]; exact hpN) 7 _ rfl,(r2.still hu).get (by rw [HGl.out.2]; exact hpN) 0 _ rfl,(t2.still hu).get (by rw [HWl.out.2]; exact hpN) 0 _ rfl,(r2.still hu).get (by rw [HGl.out.2]; exact hpN) 2 _ rfl,(t2.still hu).get (by rw [HWl.out.2]; exact hpN) 2 _ rfl⟩)
                obtain ⟨hx,ehx⟩:∃ x,(mm G.w.ms p).hl=x:=⟨_,rfl⟩
                obtain ⟨hw,ehw⟩:∃ x,(mm W.ms p).hl=x:=⟨_,rfl⟩
                obtain ⟨px,epx⟩:∃ x,(sc G.w.cs p).p=x:=⟨_,rfl⟩
                obtain ⟨pw,epw⟩:∃ x,(sc W.cs p).p=x:=⟨_,rfl⟩
                obtain ⟨ow,eow⟩:∃ x,(sc W.cs p).o=x:=⟨_,rfl⟩
                obtain ⟨nh,enh⟩:∃ x:Int,((G.ns.countP (hitF p):Nat):Int)=x:=⟨_,rfl⟩
                obtain ⟨ng,eng⟩:∃ x:Int,((G.ns.countP (gdF p):Nat):Int)=x:=⟨_,rfl⟩
                obtain ⟨no,eno⟩:∃ x:Int,((G.ns.countP (outF p):Nat):Int)=x:=⟨_,rfl⟩
                rw [hO] at HV hOx
                rw [ehx,ehw,epx,epw,eow,eno] at HV
                rw [ehx,ehw,enh] at HL20
                rw [epx,epw,eng] at HL21
                rw [epx,epw,eno] at HL22
                rw [eow,eno] at hOx
                rw [eow] at hOw
                rw [enh,eng,eno]
                have hn0:(0:Int)<=no:=by omega
                have hwo:IntKind.i64.wrap (ow+no)=ow+no:=by rw [IntKind.wrap_i64] <;> omega
                have hne2:(ow+no != ow+no)=false:=by simp
                clear hv hv2 hv3 hv4 hO eO ehx ehw epx epw eow enh eng eno hOb2 hge hkk
                obtain ⟨b20,e20⟩:∃ b,decide (hx<hw)=b:=⟨_,rfl⟩
                obtain ⟨b21,e21⟩:∃ b,decide (pw<px)=b:=⟨_,rfl⟩
                obtain ⟨b22,e22⟩:∃ b,decide (px<pw)=b:=⟨_,rfl⟩
                have HL20':Hid (b20=true->(nh == 0)=false):=hid (fun h=>HL20.out (of_decide_eq_true (e20.trans h)))
                have HL21':Hid (b21=true->(ng == 0)=false):=hid (fun h=>HL21.out (of_decide_eq_true (e21.trans h)))
                have HL22':Hid (b22=true->(no == 0)=false):=hid (fun h=>HL22.out (of_decide_eq_true (e22.trans h)))
                clear HL20 HL21 HL22
                obtain ⟨⟨d1,d2,f1,f2⟩,v1,v2,v3,v4,v5,v6⟩:=HV.out _ HI2.out
                have l1:=Cl.cell d1
                have l2:=Cl.cell f1
                have l3:=Cl.cell v1
                have l4:=Cl.cell v2
                have hne:=Aft.here wr
                go_upto_region 27 with fail
                refine region_all (by kernel_rfl) (by kernel_rfl) ?_
                repeat (go_big_quiet_step (rfl))
                refine wpQuiet_nil ?_
                intro w6 h6
                have HI6:=hid (HI2.out.trans h6)
                clear h6 hne l1 l2 l3 l4 d1 d2 f1 f2 v1 v2 v3 v4 v5 v6
                obtain ⟨⟨d1,d2,f1,f2⟩,v1,v2,v3,v4,v5,v6⟩:=HV.out _ HI6.out
                have l1:=Cl.cell d2
                have l2:=Cl.cell f2
                have l3:=Cl.cell v3
                have l4:=Cl.cell v4
                have hne:=Aft.here w6
                go_upto_region 28 with fail
                refine region_all (by kernel_rfl) (by kernel_rfl) ?_
                repeat (go_big_quiet_step (rfl))
                refine wpQuiet_nil ?_
                intro w7 h7
                have HI7:=hid (HI6.out.trans h7)
                clear h7 hne l1 l2 l3 l4 d1 d2 f1 f2 v1 v2 v3 v4 v5 v6
                obtain ⟨⟨d1,d2,f1,f2⟩,v1,v2,v3,v4,v5,v6⟩:=HV.out _ HI7.out
                have l1:=Cl.cell d2
                have l2:=Cl.cell f2
                have l3:=Cl.cell v3
                have l4:=Cl.cell v4
                have hne:=Aft.here w7
                go_upto_region 29 with fail
                refine region_all (by kernel_rfl) (by kernel_rfl) ?_
                repeat (go_big_quiet_step (rfl))
                refine wpQuiet_nil ?_
                intro w8 h8'
                have HI8:=hid (HI7.out.trans h8')
                clear h8' hne l1 l2 l3 l4 d1 d2 f1 f2 v1 v2 v3 v4 v5 v6
                obtain ⟨⟨d1,d2,f1,f2⟩,v1,v2,v3,v4,v5,v6⟩:=HV.out _ HI8.out
                have l1:=Cl.cell d2
                have l2:=Cl.cell f2
                have l3:=Cl.cell v5
                have l4:=Cl.cell v6
                have hne:=Aft.here w8
                clear e20 e21 e22
                cases b20 <;> cases b21 <;> cases b22
                all_goals as_aux_lemma =>
                  try (have q20:=HL20'.out rfl)
                  try (have q21:=HL21'.out rfl)
                  try (have q22:=HL22'.out rfl)
                  go_upto_region 30 with fail
                  refine region_all (by kernel_rfl) (by kernel_rfl) ?_
                  repeat (go_big_quiet_step (rfl))
                  refine wpQuiet_nil ?_
                  intro w9 h9
                  have HI9:=hid (HI8.out.trans h9)
                  clear h9 hne l1 l2 l3 l4 d1 d2 f1 f2 v1 v2 v3 v4 v5 v6
                  go_wp2_with fail
                  go_roundw
                  case rel=>exact ⟨p+1,by omega,by go_num,HI9⟩
                  case measure=>first | (simp [intOf]; done) | (simp [intOf]; omega)
          · have hgep:¬ (p:Int)<(N:Int):=by omega
            clear hp
            go_wp2_with fail
            clear d0 d1 d2 d3 d4 d5 df
            have hj3:j3<=48:=by rw [<- HJ.out.2.2.1]; exact (flo_pw.1 HGg.out.2.1).1
            have hj4:j4<=8:=by rw [<- HJ.out.2.2.2.1]; exact (mayK_pw.1 HGg.out.2.2.2.1).2.1
            have HAx:=hid (HFa.out.apt HAp.out)
            go_loopw [23] (fun u wr=>∃ k:Nat,k<=j3/\u=.int .i64 (k:Int)/\Hid (Still W5 wr)) (fun u _=>j3 - (intOf u).toNat)
            case atStart=>exact ⟨0,by omega,rfl,HI⟩
            case round =>
              obtain ⟨k,hk,rfl,HI2⟩:=hrel
              obtain ⟨d0,d1,d2,d3,d4,d5,df⟩:=(HZ.out.still HI2.out).cells
              by_cases hk3:k<j3
              · have hltk:(k:Int)<(j3:Int):=by omega
                have hk0:(0:Int)<=(k:Int):=by omega
                go_wp2_with fail
                clear d0 d1 d2 d3 d4 d5 df
                go_loopw [24] (fun u wr=>∃ m:Nat,m<=j4/\u=.int .i64 (m:Int)/\Hid (Still W5 wr)) (fun u _=>j4 - (intOf u).toNat)
                case atStart=>exact ⟨0,by omega,rfl,HI2⟩
                case round =>
                  obtain ⟨m,hm,rfl,HI3⟩:=hrel
                  obtain ⟨d0,d1,d2,d3,d4,d5,df⟩:=(HZ.out.still HI3.out).cells
                  by_cases hm4:m<j4
                  · have hltm:(m:Int)<(j4:Int):=by omega
                    have hm0:(0:Int)<=(m:Int):=by omega
                    have r3:=HRs.out.2.2.1.still HI3.out
                    have r4:=HRs.out.2.2.2.still HI3.out
                    have l3:k<G.w.hs.length:=by rw [HJ.out.2.2.1]; exact hk3
                    have l4:m<G.w.ks.length:=by rw [HJ.out.2.2.2.1]; exact hm4
                    obtain ⟨gs,cgs,hv,_,_⟩:=r3.head (by omega)
                    obtain ⟨gk,cgk,hv2,_,_⟩:=r4.head (by omega)
                    simp only [Value.slice.injEq] at hv hv2
                    obtain ⟨rfl,_,_⟩:=hv
                    obtain ⟨rfl,_,_⟩:=hv2
                    have c0:=(owS r3 l3).1
                    have c1:=(owQ r4 l4).1
                    have hno:(ss G.w.hs k).no≠(pk G.w.ks m).no:=HAx.out _ (by rw [ss_at l3]; exact List.getElem_mem l3) _ (by rw [pk_at l4]; exact List.getElem_mem l4)
                    obtain ⟨sn,esn⟩:∃ x,(ss G.w.hs k).no=x:=⟨_,rfl⟩
                    obtain ⟨kn,ekn⟩:∃ x,(pk G.w.ks m).no=x:=⟨_,rfl⟩
                    rw [esn] at c0 hno
                    rw [ekn] at c1 hno
                    have hb:(sn == kn)=false:=beq_eq_false_iff_ne.2 hno
                    have l1:=Cl.cell d3
                    have l2:=Cl.cell d4
                    have l5:=Cl.cell c0
                    have l6:=Cl.cell c1
                    have hne:=Aft.here wr
                    clear esn ekn hno r3 r4 l3 l4
                    as_aux_lemma =>
                      go_upto_region 38 with fail
                      refine region_all (by kernel_rfl) (by kernel_rfl) ?_
                      repeat (go_big_quiet_step (rfl))
                      refine wpQuiet_nil ?_
                      intro w6 h6
                      have HI6:=hid (HI3.out.trans h6)
                      clear h6 hne l1 l2 l5 l6 c0 c1 d0 d1 d2 d3 d4 d5 df
                      go_wp2_with fail
                      go_roundw
                      case rel=>exact ⟨m+1,by omega,by go_num,HI6⟩
                      case measure=>first | (simp [intOf]; done) | (simp [intOf]; omega)
                  · have hgem:¬ (m:Int)<(j4:Int):=by omega
                    go_wp2_with fail
                    go_roundw
                    case rel=>exact ⟨k+1,by omega,by go_num,HI3⟩
                    case measure=>first | (simp [intOf]; done) | (simp [intOf]; omega)
              · have hgek:¬ (k:Int)<(j3:Int):=by omega
                have hm2:b3≠b8:=by have:=HBs.out; omega
                obtain ⟨f0,f1,f2,f3,f4,f5,ff⟩:=(H8.out.still HI2.out).cells
                obtain ⟨r1,r2,r3,r4⟩:=HRs.out
                have HQ8:=hid (WdO.mk6 (W:=G.w) (H8.out.still HI2.out) HJ.out.2.2.2.2.2.1 HJ.out.2.2.2.2.2.2 (r1.still HI2.out) (r2.still HI2.out) (r3.still HI2.out) (r4.still HI2.out))
                have HPv:=hid (cfb_oth (HC5.out.still HI2.out) hm2 (.int .i64 ((i:Int)+1)) (.slice za N ca) (.slice zb N cb) (.slice zc j3 cc) (.slice zd j4 cd) (.int .i64 nx'))
                have HSv:=hid (still_set6 (HS5.out.trans HI2.out) (g:=b8) (by have:=HBs.out; omega) (.int .i64 ((i:Int)+1)) (.slice za N ca) (.slice zb N cb) (.slice zc j3 cc) (.slice zd j4 cd) (.int .i64 nx'))
                have hm1:b8≠b12:=by have:=HLt.out; omega
                have HFn:Hid (G.w.fr=((i+1:Nat):Int)/\(∀ p,(sc G.w.cs p).o<=48*((i+1:Nat):Int))):=hid ⟨by rw [HJ.out.2.2.2.2.2.1]; omega,fun p=>by have:=HFa.out.o p; have:=HOb.out p; omega⟩
                clear r1 r2 r3 r4
                as_aux_lemma =>
                  go_wp2_with fail
                  go_roundw
                  case rel=>exact ⟨i+1,by omega,by go_num,G.w,HFn.out.1,HGg.out,HFn.out.2,HAx.out,HQ8.out,HPv.out,HSv.out⟩
                  case measure=>first | (simp [intOf]; done) | (simp [intOf]; omega)
theorem fair_law (p q C R:Int) (s:ByteArray) (lo:Option Addr) (ln lc:Nat) (l:List Int) (hz:s.size<=281474976710656) (a:Int) (xo:Option Addr) (n xcp:Nat) (L:List Cm) (g47:56*n<=140737488351232) (w:World) (ht:Tab w) (hd:DTab w) (hr:RdI w lo ln lc l) (hx:RdG KX w xo n L) :
  Calls Tryz.prog 3 #[.agg #[.int .i64 p,.int .u64 q,.int .i64 C,.int .i64 R,.string s,.slice lo ln lc],.int .i64 a,.slice xo n xcp] w fun e w'=>e=.returned (.bool true)/\Still w w':=by
 obtain ⟨v0,hv0⟩:=chkV_ex C R s w
 by_cases hc:CfgP p v0 (stV C s v0).length l
 ·obtain ⟨N,rfl,_⟩:=cfg_nat hc
  exact fair_yes N q C R s lo ln lc l a v0 hv0 hc hz xo n xcp L g47 w ht hd hr hx
 ·exact fair_no p q C R s lo ln lc l a v0 hv0 hc xo n xcp w ht hd hr
end Go.Proofs.YtlibdheihodniaaGreatDoor
