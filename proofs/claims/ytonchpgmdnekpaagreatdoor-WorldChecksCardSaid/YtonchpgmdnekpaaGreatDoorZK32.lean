/- Parts of the proof, laid end to end. -/
import Derived.Test.YtonchpgmdnekpaaGreatDoorZK29
import Derived.Test.YtonchpgmdnekpaaGreatDoorZK31
import Derived.Test.YtonchpgmdnekpaaGreatDoorZK22
import Derived.Test.YtonchpgmdnekpaaGreatDoorZK21
import Derived.Test.YtonchpgmdnekpaaGreatDoorZK25
import Derived.Test.YtonchpgmdnekpaaGreatDoorZK10
import Derived.Test.YtonchpgmdnekpaaGreatDoorZK26
namespace Go.Proofs.YtonchpgmdnekpaaGreatDoor
open Go.RowKit
open Pu Gp Ap Vp Np Za Ka Ja Ea Ha Hg Hi
set_option maxRecDepth 100000
theorem a13_of (F:Cf) (hz:F.s.size<=281474976710656) (v:Int) (hv:ChkV F.C F.R F.s v) (x:World):A13 x F v (stV F.C F.s v) where
 chk u _:=(rmapcheck_any F.C F.R F.s hz u).mono fun e w' ⟨v',he,hv',hs⟩=>by
  rw [chkV_one hv' hv] at he
  exact ⟨he,hs⟩
 sts u _:=(rstarts_any F.C F.R F.s hz u).mono fun e w' ⟨a,v',he,hv',ho,hs⟩=>by
  rw [chkV_one hv' hv] at ho
  exact ⟨a,he,ho,hs⟩
abbrev E0:Env:=⟨solB 8 6 std3,[(6144,6144),(26624,6144),(6144,18432),(26624,18432)],[(14336,10240),(18432,10240)],7⟩
abbrev y0:Cm:=⟨1,1,1,7,9,0,0⟩
theorem w0_st:stV 8 std3 0=[(6144,6144),(26624,6144),(6144,18432),(26624,18432)]:=by kernel_rfl
theorem w0_sp:spV 8 std3 0=[(14336,10240),(18432,10240)]:=by kernel_rfl
theorem w0_m1:mm (nwM E0.st 2) 1=⟨26624,6144,0,0,0,0,4,100,50,false,0,0,0⟩:=by kernel_rfl
theorem w0_ns:(frame E0 (nw0 E0 2) [y0]).ns=[⟨8,1,9⟩]:=by kernel_rfl
theorem w0_sd:(mm (frame E0 (nw0 E0 2) [y0]).w.ms 1).sd=9:=by kernel_rfl
theorem w0_len:(frame E0 (nw0 E0 2) [y0]).w.ms.length=2:=by kernel_rfl
theorem w0_fr:(frame E0 (nw0 E0 2) [y0]).w.fr=1:=by kernel_rfl
theorem w0_cfg:CfgP 2 0 4 [0,2]:=by
 refine ⟨by decide,by decide,rfl,by decide,by decide,by decide,rfl,fun i h1 h2=>?_⟩
 obtain rfl:i=1:=by simp at h2; omega
 exact ⟨by decide,by decide⟩
theorem w0_rgt:Rgt 2 y0:=⟨by decide,by decide,by decide,by kernel_rfl⟩
theorem w0_ord:Ordr 2 1 [y0]:=fun i hi=>by
 obtain rfl:i=0:=by simp at hi; omega
 exact ⟨⟨w0_rgt,rfl⟩,fun h=>absurd h (by omega)⟩
theorem w0_good:Ha.Good 2 E0 (nw0 E0 2):=good_nw0 (by decide)
theorem w0_fits:Fits 2 E0 (nw0 E0 2):=⟨w0_good,by decide,by decide⟩
theorem w0_fits1:Fits 2 E0 (frame E0 (nw0 E0 2) [y0]).w:=by
 have h:=good_frame (n:=2) (by omega) w0_good (l:=[y0]) (fun x hx=>by simp at hx; subst hx; exact w0_rgt)
 refine ⟨h.1, ?_⟩
 rw [w0_fr]
 decide
theorem cfb_put {w:World} {g:Nat} {F:Cf} (h0:Cfb w g F) (p q C R:Int) (s:ByteArray) (lo:Option Addr) (n c:Nat):Cfb ((((((w.setCell ⟨g,0,none⟩ (.int .i64 p)).setCell ⟨g,1,none⟩ (.int .u64 q)).setCell ⟨g,2,none⟩ (.int .i64 C)).setCell ⟨g,3,none⟩ (.int .i64 R)).setCell ⟨g,4,none⟩ (.string s)).setCell ⟨g,5,none⟩ (.slice lo n c)) g ⟨p,q,C,R,s,.slice lo n c⟩:=by
 unfold Cfb at h0 ⊢
 have h1:=heap_setCell_same _ g 0 _ _ (.int .i64 p) h0
 have h2:=heap_setCell_same _ g 1 _ _ (.int .u64 q) h1
 have h3:=heap_setCell_same _ g 2 _ _ (.int .i64 C) h2
 have h4:=heap_setCell_same _ g 3 _ _ (.int .i64 R) h3
 have h5:=heap_setCell_same _ g 4 _ _ (.string s) h4
 have h6:=heap_setCell_same _ g 5 _ _ (.slice lo n c) h5
 exact h6.trans (by kernel_rfl)
theorem fr_put6 {a w:World} {g:Nat} (h:Fr (fun k=>k=g) a w) (v0 v1 v2 v3 v4 v5:Value):Fr (fun k=>k=g) a ((((((w.setCell ⟨g,0,none⟩ v0).setCell ⟨g,1,none⟩ v1).setCell ⟨g,2,none⟩ v2).setCell ⟨g,3,none⟩ v3).setCell ⟨g,4,none⟩ v4).setCell ⟨g,5,none⟩ v5) :=
 (((((h.setCell _ _ (.inl rfl)).setCell _ _ (.inl rfl)).setCell _ _ (.inl rfl)).setCell _ _ (.inl rfl)).setCell _ _ (.inl rfl)).setCell _ _ (.inl rfl)
theorem cfb_load {w:World} {g:Nat} {p q C R:Int} {s:ByteArray} {lo:Option Addr} {n c:Nat} (h:Cfb w g ⟨p,q,C,R,s,.slice lo n c⟩):(loadVar 27 ⟨g,0,none⟩).run Tryz.prog w=.ok (.agg #[.int .i64 p,.int .u64 q,.int .i64 C,.int .i64 R,.string s,.slice lo n c]) w:=by
 obtain ⟨c0,c1,c2,c3,c4,c5,cf⟩:=h.cells
 dsimp only at c0 c1 c2 c3 c4 c5
 clear h
 go_simp
theorem cfb_res {fn:Func} {r:Tmp} {w:World} {g:Nat} {p q C R:Int} {s:ByteArray} {lo:Option Addr} {n c:Nat} (hb:Cfb w g ⟨p,q,C,R,s,.slice lo n c⟩) (h:fn.results=#[.cell r 27]) (tmps:Array Value) (hp:tmps.getD r undef=.pointer (some ⟨g,0,none⟩)) :
  (results fn tmps).run Tryz.prog w=.ok (.agg #[.int .i64 p,.int .u64 q,.int .i64 C,.int .i64 R,.string s,.slice lo n c]) w:=by
 have hp':tmps[r]?.getD undef=.pointer (some ⟨g,0,none⟩):=by simpa using hp
 simp [results,h,hp',asAddr,cfb_load hb]
set_option maxHeartbeats 1000000 in
theorem lses_any (w:World):Calls Tryz.prog 13 #[] w fun e w'=>∃ gl,e=.returned (.agg #[.int .i64 2,.int .u64 7,.int .i64 8,.int .i64 6,.string std3,.slice (some ⟨gl,0,none⟩) 2 2])/\RdI w' (some ⟨gl,0,none⟩) 2 2 [0,2]/\Still w w':=by
 have HSd:=hid rstd_3
 obtain ⟨S,eS⟩:∃ S,std3=S:=⟨_,rfl⟩
 rw [eS] at HSd ⊢
 clear eS
 have A0:=Still.alloc w (.cells #[.int .i64 0,.int .u64 0,.int .i64 0,.int .i64 0,.string ByteArray.empty,.slice none 0 0] 27)
 have p0:Cfb _ w.heap.size ⟨0,0,0,0,ByteArray.empty,.slice none 0 0⟩:=newCf_cb w ⟨0,0,0,0,ByteArray.empty,.slice none 0 0⟩
 have HS0:=hid A0
 have HP0:=hid p0
 clear A0 p0
 go_enter Tryz.func13,Tryz.ntmps13
 go_wp2_with fail
 refine (HSd.out _).mono ?_
 rintro e w1 ⟨rfl,h1⟩
 have A2:=Still.alloc w1 (.cells #[.int .i64 8,.int .i64 6,.string S] 24)
 have A3:=Still.alloc (w1.alloc (.cells #[.int .i64 8,.int .i64 6,.string S] 24)) (.cells #[.int .i64 0,.int .i64 2] 3)
 have a2:=newA_ab w1 8 6 S
 have hp:=((HP0.out.still h1).still A2).still A3
 have HP3:=hid hp
 have HS3:=hid (((HS0.out.trans h1).trans A2).trans A3)
 have HL3:=hid (rdI_two (w1.alloc (.cells #[.int .i64 8,.int .i64 6,.string S] 24)) 0 2)
 have HLT:=hid (show w.heap.size<w1.heap.size from block_lt (HP0.out.still h1))
 obtain ⟨i0,i1,i2,jf⟩:=a2.cells
 clear A2 A3 a2 h1
 obtain ⟨c0,c1,c2,c3,c4,c5,cf⟩:=hp.cells
 clear hp
 go_wp2_with fail
 refine bodyPost_ret (cfb_res (cfb_put HP3.out 2 7 8 6 S _ 2 2) rfl _ rfl) rfl ⟨w1.heap.size+1,rfl, ?_,still_set6 HS3.out (Nat.le_refl _) _ _ _ _ _ _⟩
 have h:=HL3.out
 rw [size_alloc] at h
 refine h.kept (fr_put6 (Fr.refl _ _) _ _ _ _ _ _) (fun a ha _ e=>?_)
 cases ha
 have e:w1.heap.size+1=w.heap.size:=e
 have:=HLT.out
 omega
abbrev nv (x:Nn):Value:=.agg (ncs x)
def eqNn (x y:Nn):Bool:=(x.k == y.k) && ((x.a == y.a) && (x.b == y.b))
theorem eqNn_refl (x:Nn):eqNn x x=true:=by unfold eqNn; simp
theorem npart_in (x:Nn) (w:World):(part 3 (ncs x) 0).run Tryz.prog w=.ok (.int .i64 x.k) w/\(part 3 (ncs x) 1).run Tryz.prog w=.ok (.int .i64 x.a) w/\(part 3 (ncs x) 2).run Tryz.prog w=.ok (.int .i64 x.b) w:=by
 refine ⟨?_, ?_, ?_⟩ <;> go_simp
theorem equal_nv (x y:Nn) (w:World):(Op.equalIn 10000 48 (nv x) (nv y)).run Tryz.prog w=.ok (eqNn x y) w:=by
 have c0:=fun w=>(npart_in x w).1
 have d0:=fun w=>(npart_in y w).1
 have r0:=fun w=>equal_int 9998 x.k y.k w
 have c1:=fun w=>(npart_in x w).2.1
 have d1:=fun w=>(npart_in y w).2.1
 have r1:=fun w=>equal_int 9998 x.a y.a w
 have c2:=fun w=>(npart_in x w).2.2
 have d2:=fun w=>(npart_in y w).2.2
 have r2:=fun w=>equal_int 9998 x.b y.b w
 rw [run_equalIn_struct w 9999 _ _ _ (by kernel_rfl) (by kernel_rfl)]
 have e : (Tryz.prog.fieldsOf 48) = #[⟨ "Kind", 3, 0, false, "", "", 0⟩, ⟨ "A", 3, 1, false, "", "", 8⟩, ⟨ "B", 3, 2, false, "", "", 16⟩] := by kernel_rfl
 rw [e]
 simp only [Op.eqFields,ne_eq,String.reduceEq,not_false_eq_true,if_true,Sem.run_bind,c0,c1,c2,d0,d1,d2,Result.andThen_ok,r0,r1,r2,Sem.run_ite,Sem.run_pure]
 unfold eqNn
 exact st (st (st1 _))
theorem eql_nv (x y:Nn) (w:World):(binOp .eql 48 (nv x) (nv y)).run Tryz.prog w=.ok (.bool (eqNn x y)) w:=by
 rw [run_eql_struct,equal_nv]; rfl
theorem eql_nv_t (x:Nn) (w:World):(binOp .eql 48 (nv x) (nv x)).run Tryz.prog w=.ok (.bool true) w:=by
 rw [eql_nv,eqNn_refl]
theorem guard_nv (op:BinOp) (a b:Operand) (xs ys:Array Value) (w:World):(eqGuard op 48 a b (.agg xs) (.agg ys)).run Tryz.prog w=.ok () w:=run_eqGuard_agg w op _ a b xs ys (by kernel_rfl)
theorem w0_cs:(frame E0 (nw0 E0 2) [y0]).w.cs.length=2:=by kernel_rfl
theorem w0_hs:(frame E0 (nw0 E0 2) [y0]).w.hs.length=0:=by kernel_rfl
theorem w0_ks:(frame E0 (nw0 E0 2) [y0]).w.ks.length=0:=by kernel_rfl
theorem w0_nx:(frame E0 (nw0 E0 2) [y0]).w.nx=1:=by kernel_rfl
theorem owN {e:TypeId} {w:World} {B g n cap:Nat} {L:List Nn} (h:OwG KN e w B (.slice (some ⟨g,0,none⟩) n cap) L) {i:Nat} (hi:i<L.length):w.cell? ⟨g,i*3,none⟩=some (.int .i64 (L.getD i zNn).k)/\w.cell? ⟨g,i*3+1,none⟩=some (.int .i64 (L.getD i zNn).a)/\w.cell? ⟨g,i*3+2,none⟩=some (.int .i64 (L.getD i zNn).b)/\∀ o,w.frozen? ⟨g,o,none⟩=false :=
 ⟨h.get hi 0 _ rfl,h.get hi 1 _ rfl,h.get hi 2 _ rfl,h.frozen⟩
theorem rdX_one (w:World) (y:Cm):RdG KX (w.alloc (.cells (xcs y) 64)) (some ⟨w.heap.size,0,none⟩) 1 [y]:=by
 refine ⟨rfl,by omega,.inr ⟨w.heap.size,0,rfl,fun i hi j u hj=>?_⟩⟩
 obtain rfl:i=0:=by omega
 have hb:=heap_alloc_new w (.cells (xcs y) 64)
 rw [cell_of_row _ _ _ _ _ _ hb]
 have hj':(xcs y).toList[j]?=some u:=hj
 rw [Array.getElem?_toList] at hj'
 simpa using hj'
theorem aw_q (gl:Nat) (u:World):Q13 u ⟨2,7,8,6,std3,.slice (some ⟨gl,0,none⟩) 2 2⟩ 0 E0.st E0.sp:=by
 have h:=q13_of ⟨2,7,8,6,std3,.slice (some ⟨gl,0,none⟩) 2 2⟩ 0 std3_ok u
 dsimp only at h
 rw [w0_st,w0_sp] at h
 exact h
theorem aw_p (gl:Nat) (u:World) (ht:Tab u) (hd:DTab u):P13 u ⟨2,7,8,6,std3,.slice (some ⟨gl,0,none⟩) 2 2⟩ E0:=p13_of ⟨2,7,8,6,std3,.slice (some ⟨gl,0,none⟩) 2 2⟩ (show std3.size<=281474976710656 by decide +kernel) _ _ u ht hd
theorem aw_new (gl:Nat) (u:World) (hl:RdI u (some ⟨gl,0,none⟩) 2 2 [0,2]):Calls Tryz.prog 10 #[.agg #[.int .i64 2,.int .u64 7,.int .i64 8,.int .i64 6,.string std3,.slice (some ⟨gl,0,none⟩) 2 2]] u fun e w'=>∃ v,e=.returned (.tuple #[v,.int .i64 0])/\OwW w' u.heap.size v (nw0 E0 2)/\Still u w' :=
 wnew_yes 2 7 8 6 std3 (some ⟨gl,0,none⟩) 2 2 E0 [0,2] u 0 (aw_q gl u) hl w0_cfg
theorem aw_cfg (gl:Nat) (u:World) (hl:RdI u (some ⟨gl,0,none⟩) 2 2 [0,2]):Calls Tryz.prog 16 #[.agg #[.int .i64 2,.int .u64 7,.int .i64 8,.int .i64 6,.string std3,.slice (some ⟨gl,0,none⟩) 2 2]] u fun e w'=>e=.returned (.int .i64 0)/\Still u w' :=
 wcfg_yes 2 7 8 6 std3 (some ⟨gl,0,none⟩) 2 2 E0 [0,2] u 0 (aw_q gl u) hl w0_cfg
theorem aw_chk (gl:Nat) (u:World) (hl:RdI u (some ⟨gl,0,none⟩) 2 2 [0,2]) (v:Value) (hv:RdW u v (frame E0 (nw0 E0 2) [y0]).w):Calls Tryz.prog 7 #[.agg #[.int .i64 2,.int .u64 7,.int .i64 8,.int .i64 6,.string std3,.slice (some ⟨gl,0,none⟩) 2 2],v] u fun e w'=>e=.returned (.int .i64 0)/\Still u w':=by
 have h:=wchk_yes 2 7 8 6 std3 (some ⟨gl,0,none⟩) 2 2 E0 [0,2] u 0 (aw_q gl u) hl w0_cfg _ v hv
 rw [show chkW ((2:Nat):Int) E0 (frame E0 (nw0 E0 2) [y0]).w=0 from chkW_yes w0_fits1] at h
 exact h
theorem stE_zero {p v0:Int} {E:Env} {l:List Int} {W:Wd} {cs:List Cm} (hc:CfgP p v0 E.st.length l) (hF:Fits p E W) (hm:W.fr≠1099511627776) (hO:Ordr p (W.fr+1) cs):stE p v0 E l W cs=0:=by
 unfold stE
 rw [if_neg (not_not_intro hc),if_neg (not_not_intro hF),if_neg hm,if_neg (not_not_intro hO)]
theorem aw_step (gl gx:Nat) (u:World) (ht:Tab u) (hd:DTab u) (hl:RdI u (some ⟨gl,0,none⟩) 2 2 [0,2]) (v:Value) (hv:RdW u v (nw0 E0 2)) (hx:RdG KX u (some ⟨gx,0,none⟩) 1 [y0]):Calls Tryz.prog 11 #[.agg #[.int .i64 2,.int .u64 7,.int .i64 8,.int .i64 6,.string std3,.slice (some ⟨gl,0,none⟩) 2 2],v,.slice (some ⟨gx,0,none⟩) 1 1] u fun e w'=>StYes u w' E0 (nw0 E0 2) [y0] e :=
 (wStep_any 2 7 8 6 std3 (some ⟨gl,0,none⟩) 2 2 E0 [0,2] u 0 (aw_q gl u) (aw_p gl u ht hd) hl w0_cfg (by decide) (nw0 E0 2) v hv (some ⟨gx,0,none⟩) 1 1 [y0] hx (by omega)).mono fun e w' h=>h.1 (stE_zero w0_cfg w0_fits (by decide) w0_ord)
theorem aw_ref (gl gx:Nat) (u:World) (ht:Tab u) (hd:DTab u) (hl:RdI u (some ⟨gl,0,none⟩) 2 2 [0,2]) (hx:RdG KX u (some ⟨gx,0,none⟩) 1 [y0]):Calls Tryz.prog 14 #[.agg #[.int .i64 2,.int .u64 7,.int .i64 8,.int .i64 6,.string std3,.slice (some ⟨gl,0,none⟩) 2 2],.int .i64 1,.slice (some ⟨gx,0,none⟩) 1 1] u fun e w'=>∃ v,e=.returned (.tuple #[v,.int .i64 0])/\OwW w' u.heap.size v (frame E0 (nw0 E0 2) [y0]).w/\Still u w' :=
 wref_one 2 7 8 6 std3 (some ⟨gl,0,none⟩) 2 2 E0 [0,2] u 0 (aw_q gl u) (aw_p gl u ht hd) hl w0_cfg (by decide) 1 1 7 9 0 0 w0_rgt gx 1 hx
set_option maxHeartbeats 8000000 in
theorem awake13_any (w:World) (ht:Tab w) (hd:DTab w):Calls Tryz.prog 5 #[] w fun e w'=>e=.returned (.bool true)/\Still w w':=by
 have HSes:=hid lses_any
 have HNew:=hid aw_new
 have HCfg:=hid aw_cfg
 have HChk:=hid aw_chk
 have HStp:=hid aw_step
 have HRef:=hid aw_ref
 obtain ⟨S,eS⟩:∃ S,std3=S:=⟨_,rfl⟩
 rw [eS] at HSes
 simp only [eS] at HNew HCfg HChk HStp HRef
 clear eS
 have HT:=hid ht
 have HDt:=hid hd
 clear ht hd
 have G1:=guard_pt
 have G2:=fun w=>neq_pt_f (x:=26624) (y:=6144) (z:=26624) (u:=6144) ⟨rfl,rfl⟩ w
 have G3:=guard_nv
 have G4:=fun w=>eql_nv_t ⟨8,1,9⟩ w
 go_enter Tryz.func5,Tryz.ntmps5
 go_wp2_with fail
 refine (HSes.out _).mono ?_
 rintro e w1 ⟨gl,rfl,hl,h1⟩
 have A1:=Still.alloc w1 (.cells #[.int .i64 2,.int .u64 7,.int .i64 8,.int .i64 6,.string S,.slice (some ⟨gl,0,none⟩) 2 2] 27)
 have HP1:Hid (Cfb (w1.alloc (.cells #[.int .i64 2,.int .u64 7,.int .i64 8,.int .i64 6,.string S,.slice (some ⟨gl,0,none⟩) 2 2] 27)) w1.heap.size ⟨2,7,8,6,S,.slice (some ⟨gl,0,none⟩) 2 2⟩):=hid (newCf_cb w1 ⟨2,7,8,6,S,.slice (some ⟨gl,0,none⟩) 2 2⟩)
 have HL1:=hid (hl.still A1)
 have HS1:Hid (Still w (w1.alloc (.cells #[.int .i64 2,.int .u64 7,.int .i64 8,.int .i64 6,.string S,.slice (some ⟨gl,0,none⟩) 2 2] 27))):=hid (h1.trans A1)
 clear hl h1 A1
 obtain ⟨W1,eW1⟩:∃ X,w1.alloc (.cells #[.int .i64 2,.int .u64 7,.int .i64 8,.int .i64 6,.string S,.slice (some ⟨gl,0,none⟩) 2 2] 27)=X:=⟨_,rfl⟩
 rw [eW1] at HP1 HL1 HS1
 obtain ⟨b1,eb1⟩:∃ k,w1.heap.size=k:=⟨_,rfl⟩
 rw [eb1] at HP1
 obtain ⟨c0,c1,c2,c3,c4,c5,cf⟩:=HP1.out.cells
 dsimp only at c0 c1 c2 c3 c4 c5
 go_wp2_with fail
 refine (HNew.out gl W1 HL1.out).mono ?_
 rintro e w2 ⟨u,rfl,hW,h2⟩
 have hV:=OwW.rd hW (by decide) (by decide) (by decide) (by decide)
 obtain ⟨a,b,c,d,rfl,q1,q2,q3,q4⟩:=hW
 obtain ⟨gm,cm1,rfl,_,_⟩:=q1.head (by decide)
 obtain ⟨xb,yb,rfl,_⟩:=q2.slice
 obtain ⟨xc,yc,rfl,_⟩:=q3.slice
 obtain ⟨xd,yd,rfl,_⟩:=q4.slice
 simp only [show (nw0 E0 2).fr=0 from rfl,show (nw0 E0 2).nx=1 from rfl,show (nw0 E0 2).ms.length=2 from rfl,show (nw0 E0 2).cs.length=2 from rfl,show (nw0 E0 2).hs.length=0 from rfl,show (nw0 E0 2).ks.length=0 from rfl] at q1 hV ⊢
 have A2:=Still.alloc w2 (.cells (wdcs 0 1 (.slice (some ⟨gm,0,none⟩) 2 cm1) (.slice xb 2 yb) (.slice xc 0 yc) (.slice xd 0 yd)) 33)
 have hs2:=h2.trans A2
 have HP2:=hid (HP1.out.still hs2)
 have HL2:=hid (HL1.out.still hs2)
 have HS2:=hid (HS1.out.trans hs2)
 have HV2:=hid (hV.still A2)
 have HM2:=hid (q1.still A2)
 have hN2:Wdb (w2.alloc (.cells (wdcs 0 1 (.slice (some ⟨gm,0,none⟩) 2 cm1) (.slice xb 2 yb) (.slice xc 0 yc) (.slice xd 0 yd)) 33)) w2.heap.size 0 1 (.slice (some ⟨gm,0,none⟩) 2 cm1) (.slice xb 2 yb) (.slice xc 0 yc) (.slice xd 0 yd):=newWd_wb w2 0 1 _ _ _ _
 have HN2:=hid hN2
 clear hV q1 q2 q3 q4 A2 h2 hs2 hN2 c0 c1 c2 c3 c4 c5 cf eW1 eb1 HP1 HL1 HS1
 obtain ⟨W2,eW2⟩:∃ X,w2.alloc (.cells (wdcs 0 1 (.slice (some ⟨gm,0,none⟩) 2 cm1) (.slice xb 2 yb) (.slice xc 0 yc) (.slice xd 0 yd)) 33)=X:=⟨_,rfl⟩
 rw [eW2] at HP2 HL2 HS2 HV2 HM2 HN2
 obtain ⟨b2,eb2⟩:∃ k,w2.heap.size=k:=⟨_,rfl⟩
 rw [eb2] at HN2
 obtain ⟨c0,c1,c2,c3,c4,c5,cf⟩:=HP2.out.cells
 dsimp only at c0 c1 c2 c3 c4 c5
 obtain ⟨d0,d1,d2,d3,d4,d5,df⟩:=HN2.out.cells
 obtain ⟨m0,m1,m2,m3,m4,m5,m6,m7,m8,m9,m10,m11,m12,mf⟩:=owM HM2.out (i:=1) (by decide)
 rw [show mm (nw0 E0 2).ms 1=⟨26624,6144,0,0,0,0,4,100,50,false,0,0,0⟩ from w0_m1] at m0 m1 m2 m3 m4 m5 m6 m7 m8 m9 m10 m11 m12
 simp only [Nat.one_mul,Nat.reduceAdd] at m0 m1 m2 m3 m4 m5 m6 m7 m8 m9 m10 m11 m12
 have A3:=Still.alloc W2 (.cells (xcs y0) 64)
 have HP3:=hid (HP2.out.still A3)
 have HL3:=hid (HL2.out.still A3)
 have HS3:=hid (HS2.out.trans A3)
 have HV3:=hid (HV2.out.still A3)
 have HX3:=hid (rdX_one W2 y0)
 clear A3
 go_wp2_with fail
 refine (HStp.out gl _ _ (HT.out.still HS3.out) (HDt.out.still HS3.out) HL3.out _ HV3.out HX3.out).mono ?_
 rintro e w4 ⟨⟨u4,nv4,rfl,hW4,hn4⟩,h4⟩
 have hns:=w0_ns
 have hsd:=w0_sd
 have hml:=w0_len
 have hfr:=w0_fr
 have hcs:=w0_cs
 have hhs:=w0_hs
 have hks:=w0_ks
 have hnx:=w0_nx
 obtain ⟨G,eG⟩:∃ G,frame E0 (nw0 E0 2) [y0]=G:=⟨_,rfl⟩
 rw [eG] at hns hsd hml hfr hcs hhs hks hnx hW4 hn4
 simp only [eG] at HChk HRef
 clear eG
 have hV4:=OwW.rd hW4 (by omega) (by omega) (by omega) (by omega)
 obtain ⟨a,b,c,d,rfl,q1,q2,q3,q4⟩:=hW4
 obtain ⟨gm4,cm4,rfl,_,_⟩:=q1.head (by omega)
 obtain ⟨xb4,yb4,rfl,_⟩:=q2.slice
 obtain ⟨xc4,yc4,rfl,_⟩:=q3.slice
 obtain ⟨xd4,yd4,rfl,_⟩:=q4.slice
 rw [hns] at hn4
 obtain ⟨gn,cn,rfl,_,_⟩:=hn4.head (by decide)
 simp only [hfr,hnx,hml,hcs,hhs,hks,List.length_cons,List.length_nil,Nat.zero_add] at q1 hV4 hn4 ⊢
 have A4:=Still.alloc w4 (.cells (wdcs 1 1 (.slice (some ⟨gm4,0,none⟩) 2 cm4) (.slice xb4 2 yb4) (.slice xc4 0 yc4) (.slice xd4 0 yd4)) 33)
 have hs4:=h4.trans A4
 have HP4:=hid (HP3.out.still hs4)
 have HL4:=hid (HL3.out.still hs4)
 have HS4:=hid (HS3.out.trans hs4)
 have HV4:=hid (hV4.still A4)
 have HM4:=hid (q1.still A4)
 have HNn4:=hid (hn4.still A4)
 have hN4:Wdb (w4.alloc (.cells (wdcs 1 1 (.slice (some ⟨gm4,0,none⟩) 2 cm4) (.slice xb4 2 yb4) (.slice xc4 0 yc4) (.slice xd4 0 yd4)) 33)) w4.heap.size 1 1 (.slice (some ⟨gm4,0,none⟩) 2 cm4) (.slice xb4 2 yb4) (.slice xc4 0 yc4) (.slice xd4 0 yd4):=newWd_wb w4 1 1 _ _ _ _
 have HN4:=hid hN4
 have HSd:=hid hsd
 have HMl:=hid hml
 have HLs:=hid (And.intro hcs (And.intro hhs (And.intro hks (And.intro hfr hnx))))
 clear hV4 q1 q2 q3 q4 hn4 A4 h4 hs4 hN4 c0 c1 c2 c3 c4 c5 cf d0 d1 d2 d3 d4 d5 df m0 m1 m2 m3 m4 m5 m6 m7 m8 m9 m10 m11 m12 mf eW2 eb2 HP3 HL3 HS3 HV3 HX3 HP2 HL2 HS2 HV2 HM2 HN2 hns hsd hml hfr hcs hhs hks hnx
 obtain ⟨W4,eW4⟩:∃ X,w4.alloc (.cells (wdcs 1 1 (.slice (some ⟨gm4,0,none⟩) 2 cm4) (.slice xb4 2 yb4) (.slice xc4 0 yc4) (.slice xd4 0 yd4)) 33)=X:=⟨_,rfl⟩
 rw [eW4] at HP4 HL4 HS4 HV4 HM4 HNn4 HN4
 obtain ⟨b4,eb4⟩:∃ k,w4.heap.size=k:=⟨_,rfl⟩
 rw [eb4] at HN4
 obtain ⟨c0,c1,c2,c3,c4,c5,cf⟩:=HP4.out.cells
 dsimp only at c0 c1 c2 c3 c4 c5
 obtain ⟨d0,d1,d2,d3,d4,d5,df⟩:=HN4.out.cells
 obtain ⟨m0,m1,m2,m3,m4,m5,m6,m7,m8,m9,m10,m11,m12,mf⟩:=owM HM4.out (i:=1) (by rw [HMl.out]; omega)
 simp only [Nat.one_mul,Nat.reduceAdd,HSd.out] at m0 m1 m2 m3 m4 m5 m6 m7 m8 m9 m10 m11 m12
 have A5:=Still.alloc W4 (.cells (xcs y0) 64)
 have HP5:=hid (HP4.out.still A5)
 have HL5:=hid (HL4.out.still A5)
 have HS5:=hid (HS4.out.trans A5)
 have HV5:=hid (HV4.out.still A5)
 have HX5:=hid (rdX_one W4 y0)
 have HN5:=hid (HN4.out.still A5)
 have HM5:=hid (HNn4.out.still A5)
 clear A5
 go_wp2_with fail
 refine (HRef.out gl _ _ (HT.out.still HS5.out) (HDt.out.still HS5.out) HL5.out HX5.out).mono ?_
 rintro e w6 ⟨u6,rfl,hW6,h6⟩
 have hV6:=OwW.rd hW6 (by rw [HMl.out]; omega) (by rw [HLs.out.1]; omega) (by rw [HLs.out.2.1]; omega) (by rw [HLs.out.2.2.1]; omega)
 obtain ⟨a,b,c,d,rfl,q1,q2,q3,q4⟩:=hW6
 obtain ⟨gm6,cm6,rfl,_,_⟩:=q1.head (by rw [HMl.out]; omega)
 obtain ⟨xb6,yb6,rfl,_⟩:=q2.slice
 obtain ⟨xc6,yc6,rfl,_⟩:=q3.slice
 obtain ⟨xd6,yd6,rfl,_⟩:=q4.slice
 simp only [HMl.out,HLs.out.1,HLs.out.2.1,HLs.out.2.2.1,HLs.out.2.2.2.1,HLs.out.2.2.2.2] at hV6 ⊢
 have A6:=Still.alloc w6 (.cells (wdcs 1 1 (.slice (some ⟨gm6,0,none⟩) 2 cm6) (.slice xb6 2 yb6) (.slice xc6 0 yc6) (.slice xd6 0 yd6)) 33)
 have hs6:=h6.trans A6
 have HP6:=hid (HP5.out.still hs6)
 have HL6:=hid (HL5.out.still hs6)
 have HS6:=hid (HS5.out.trans hs6)
 have HVa:=hid (HV5.out.still hs6)
 have HVb:=hid (hV6.still A6)
 have HN6:=hid (HN5.out.still hs6)
 have HM6:=hid (HM5.out.still hs6)
 have hN6:Wdb (w6.alloc (.cells (wdcs 1 1 (.slice (some ⟨gm6,0,none⟩) 2 cm6) (.slice xb6 2 yb6) (.slice xc6 0 yc6) (.slice xd6 0 yd6)) 33)) w6.heap.size 1 1 (.slice (some ⟨gm6,0,none⟩) 2 cm6) (.slice xb6 2 yb6) (.slice xc6 0 yc6) (.slice xd6 0 yd6):=newWd_wb w6 1 1 _ _ _ _
 have HK6:=hid hN6
 clear hV6 q1 q2 q3 q4 A6 h6 hs6 hN6 c0 c1 c2 c3 c4 c5 cf d0 d1 d2 d3 d4 d5 df m0 m1 m2 m3 m4 m5 m6 m7 m8 m9 m10 m11 m12 mf eW4 eb4 HP5 HL5 HS5 HV5 HX5 HN5 HM5 HP4 HL4 HS4 HV4 HM4 HNn4 HN4
 obtain ⟨W6,eW6⟩:∃ X,w6.alloc (.cells (wdcs 1 1 (.slice (some ⟨gm6,0,none⟩) 2 cm6) (.slice xb6 2 yb6) (.slice xc6 0 yc6) (.slice xd6 0 yd6)) 33)=X:=⟨_,rfl⟩
 rw [eW6] at HP6 HL6 HS6 HVa HVb HN6 HM6 HK6
 obtain ⟨b6,eb6⟩:∃ k,w6.heap.size=k:=⟨_,rfl⟩
 rw [eb6] at HK6
 obtain ⟨d0,d1,d2,d3,d4,d5,df⟩:=HN6.out.cells
 obtain ⟨f0,f1,f2,f3,f4,f5,ff⟩:=HK6.out.cells
 go_wp2_with fail
 refine (rsame_any G.w _ _ W6 HVa.out HVb.out).mono ?_
 rintro e w7 ⟨rfl,h7⟩
 have HP7:=hid (HP6.out.still h7)
 have HL7:=hid (HL6.out.still h7)
 have HS7:=hid (HS6.out.trans h7)
 have HV7:=hid (HVa.out.still h7)
 have HN7:=hid (HN6.out.still h7)
 have HM7:=hid (HM6.out.still h7)
 clear h7 d0 d1 d2 d3 d4 d5 df f0 f1 f2 f3 f4 f5 ff eW6 eb6 HP6 HL6 HS6 HVa HVb HN6 HM6 HK6
 obtain ⟨c0,c1,c2,c3,c4,c5,cf⟩:=HP7.out.cells
 dsimp only at c0 c1 c2 c3 c4 c5
 go_wp2_with fail
 refine (HCfg.out gl w7 HL7.out).mono ?_
 rintro e w8 ⟨rfl,h8⟩
 have HP8:=hid (HP7.out.still h8)
 have HL8:=hid (HL7.out.still h8)
 have HS8:=hid (HS7.out.trans h8)
 have HV8:=hid (HV7.out.still h8)
 have HN8:=hid (HN7.out.still h8)
 have HM8:=hid (HM7.out.still h8)
 clear h8 c0 c1 c2 c3 c4 c5 cf HP7 HL7 HS7 HV7 HN7 HM7
 obtain ⟨c0,c1,c2,c3,c4,c5,cf⟩:=HP8.out.cells
 dsimp only at c0 c1 c2 c3 c4 c5
 obtain ⟨d0,d1,d2,d3,d4,d5,df⟩:=HN8.out.cells
 go_wp2_with fail
 refine (HChk.out gl w8 HL8.out _ HV8.out).mono ?_
 rintro e w9 ⟨rfl,h9⟩
 have HS9:=hid (HS8.out.trans h9)
 obtain ⟨n0,n1,n2,nf⟩:=owN (HM8.out.still h9) (i:=0) (by decide)
 simp only [Nat.zero_mul,Nat.zero_add,List.getD_cons_zero] at n0 n1 n2
 clear h9 c0 c1 c2 c3 c4 c5 cf d0 d1 d2 d3 d4 d5 df HP8 HL8 HS8 HV8 HN8 HM8
 go_wp2_with fail
 go_ret
 exact ⟨rfl,HS9.out⟩
abbrev envM (q C R:Int) (s:ByteArray) (v0:Int):Env:=⟨solB C R s,stV C s v0,spV C s v0,q⟩
theorem cfg_nat {p v0:Int} {k:Nat} {l:List Int} (h:CfgP p v0 k l):∃ N:Nat,p=(N:Int)/\2<=N/\N<=6/\N<=k:=⟨p.toNat,by have:=h.1; omega,by have:=h.1; omega,by have:=h.2.1; omega,by have:=h.2.2.2.1; have:=h.1; omega⟩
theorem all_getD {α:Type} {L:List α} {d:α} {Q:α->Prop} (h:∀ j,j<L.length->Q (L.getD j d)):∀ s∈L,Q s:=fun s hs=>by
 obtain ⟨i,hi,rfl⟩:=List.mem_iff_getElem.1 hs
 have:=h i hi
 rw [List.getD_eq_getElem?_getD,List.getElem?_eq_getElem hi] at this
 exact this
theorem getD_in {α:Type} {L:List α} {d:α} {j:Nat} (hj:j<L.length):L.getD j d∈L:=by
 rw [List.getD_eq_getElem?_getD,List.getElem?_eq_getElem hj]
 exact List.getElem_mem hj
theorem spots_of (C R:Int) (s:ByteArray) (hz:s.size<=281474976710656) (v:Int) (hv:ChkV C R s v) (u:World):Calls Tryz.prog 20 #[ar C R s] u fun e w'=>∃ a,e=.returned a/\OwG KT 50 w' u.heap.size a (spV C s v)/\Still u w' :=
 (rspots_any C R s hz u).mono fun e w' ⟨a,v',he,hv',ho,hs⟩=>by
  rw [chkV_one hv' hv] at ho
  exact ⟨a,he,ho,hs⟩
set_option maxHeartbeats 4000000 in
theorem rchk13_no (p q C R:Int) (s:ByteArray) (lo:Option Addr) (ln lc:Nat) (st:List (Int × Int)) (l:List Int) (w:World) (v0:Int) (A:A13 w ⟨p,q,C,R,s,.slice lo ln lc⟩ v0 st) (hr:RdI w lo ln lc l) (hc:¬ CfgP p v0 st.length l) (W:Wd) (v:Value) (hv:RdW w v W) :
  Calls Tryz.prog 9 #[.agg #[.int .i64 p,.int .u64 q,.int .i64 C,.int .i64 R,.string s,.slice lo ln lc],v] w fun e w'=>e=.returned (.int .i64 130)/\Still w w':=by
 have HV:=hid hv
 obtain ⟨a,b,c,d,rfl,⟨xa,ya,rfl,l1,ha,hra⟩,⟨xb,yb,rfl,l2,hb,hrb⟩,⟨xc,yc,rfl,l3,hc0,hrc⟩,⟨xd,yd,rfl,l4,hd0,hrd⟩⟩:=hv
 have HRc:=hid hrc
 have HRd:=hid hrd
 clear l1 l2 l3 l4 ha hb hc0 hd0 hra hrb hrc hrd
 obtain ⟨k1,e1⟩:∃ n,W.ms.length=n:=⟨_,rfl⟩
 obtain ⟨k2,e2⟩:∃ n,W.cs.length=n:=⟨_,rfl⟩
 obtain ⟨k3,e3⟩:∃ n,W.hs.length=n:=⟨_,rfl⟩
 obtain ⟨k4,e4⟩:∃ n,W.ks.length=n:=⟨_,rfl⟩
 obtain ⟨fr,e5⟩:∃ n,W.fr=n:=⟨_,rfl⟩
 obtain ⟨nx,e6⟩:∃ n,W.nx=n:=⟨_,rfl⟩
 rw [e1,e2,e3,e4,e5,e6] at HV ⊢
 rw [e3] at HRc
 rw [e4] at HRd
 have EL:=hid (And.intro e3 (And.intro e4 (And.intro e5 e6)))
 clear e1 e2 e3 e4 e5 e6
 have A0:=Still.alloc w (.cells #[.int .i64 p,.int .u64 q,.int .i64 C,.int .i64 R,.string s,.slice lo ln lc] 27)
 have A1:=Still.alloc (w.alloc (.cells #[.int .i64 p,.int .u64 q,.int .i64 C,.int .i64 R,.string s,.slice lo ln lc] 27)) (.cells (wdcs fr nx (.slice xa k1 ya) (.slice xb k2 yb) (.slice xc k3 yc) (.slice xd k4 yd)) 33)
 have w0:=newWd_wb (w.alloc (.cells #[.int .i64 p,.int .u64 q,.int .i64 C,.int .i64 R,.string s,.slice lo ln lc] 27)) fr nx (.slice xa k1 ya) (.slice xb k2 yb) (.slice xc k3 yc) (.slice xd k4 yd)
 rw [size_alloc] at w0
 have HS0:Hid (Still w ((w.alloc (.cells #[.int .i64 p,.int .u64 q,.int .i64 C,.int .i64 R,.string s,.slice lo ln lc] 27)).alloc (.cells (wdcs fr nx (.slice xa k1 ya) (.slice xb k2 yb) (.slice xc k3 yc) (.slice xd k4 yd)) 33))):=hid (A0.trans A1)
 have HP0:Hid (Cfb ((w.alloc (.cells #[.int .i64 p,.int .u64 q,.int .i64 C,.int .i64 R,.string s,.slice lo ln lc] 27)).alloc (.cells (wdcs fr nx (.slice xa k1 ya) (.slice xb k2 yb) (.slice xc k3 yc) (.slice xd k4 yd)) 33)) w.heap.size ⟨p,q,C,R,s,.slice lo ln lc⟩):=hid ((newCf_cb w ⟨p,q,C,R,s,.slice lo ln lc⟩).still A1)
 have HW0:Hid (Wdb ((w.alloc (.cells #[.int .i64 p,.int .u64 q,.int .i64 C,.int .i64 R,.string s,.slice lo ln lc] 27)).alloc (.cells (wdcs fr nx (.slice xa k1 ya) (.slice xb k2 yb) (.slice xc k3 yc) (.slice xd k4 yd)) 33)) (w.heap.size+1) fr nx (.slice xa k1 ya) (.slice xb k2 yb) (.slice xc k3 yc) (.slice xd k4 yd)):=hid w0
 have HOp:=hid (rcfg_any ⟨p,q,C,R,s,.slice lo ln lc⟩ v0 st l lo ln lc rfl ((w.alloc (.cells #[.int .i64 p,.int .u64 q,.int .i64 C,.int .i64 R,.string s,.slice lo ln lc] 27)).alloc (.cells (wdcs fr nx (.slice xa k1 ya) (.slice xb k2 yb) (.slice xc k3 yc) (.slice xd k4 yd)) 33)) (A.still (A0.trans A1)) (hr.still (A0.trans A1)))
 rw [cfgE_no (by exact hc)] at HOp
 clear A hr hc
 clear A0 A1 w0
 obtain ⟨W0,eW0⟩:∃ X,((w.alloc (.cells #[.int .i64 p,.int .u64 q,.int .i64 C,.int .i64 R,.string s,.slice lo ln lc] 27)).alloc (.cells (wdcs fr nx (.slice xa k1 ya) (.slice xb k2 yb) (.slice xc k3 yc) (.slice xd k4 yd)) 33))=X:=⟨_,rfl⟩
 rw [eW0] at HS0 HP0 HW0 HOp
 obtain ⟨c0,c1,c2,c3,c4,c5,cf⟩:=HP0.out.cells
 dsimp only at c0 c1 c2 c3 c4 c5
 go_enter Tryz.func9,Tryz.ntmps9
 go_wp2_with fail
 refine HOp.out.mono ?_
 rintro e w1 ⟨rfl,h1⟩
 have HS1:=hid (HS0.out.trans h1)
 clear h1 c0 c1 c2 c3 c4 c5 cf eW0
 go_wp2_with fail
 go_ret
 exact ⟨rfl,HS1.out⟩
set_option maxHeartbeats 16000000 in
theorem rchk13_yes (N:Nat) (q C R:Int) (s:ByteArray) (lo:Option Addr) (ln lc:Nat) (E:Env) (l:List Int) (w:World) (v0:Int) (A:A13 w ⟨(N:Int),q,C,R,s,.slice lo ln lc⟩ v0 E.st) (hsp:∀ u,Calls Tryz.prog 20 #[ar C R s] u fun e w'=>∃ a,e=.returned a/\OwG KT 50 w' u.heap.size a E.sp/\Still u w') (hr:RdI w lo ln lc l) (hc:CfgP (N:Int) v0 E.st.length l) (W:Wd) (v:Value) (hv:RdW w v W) :
  Calls Tryz.prog 9 #[.agg #[.int .i64 (N:Int),.int .u64 q,.int .i64 C,.int .i64 R,.string s,.slice lo ln lc],v] w fun e w'=>e=.returned (.int .i64 (chkW (N:Int) E W))/\Still w w':=by
 have hN6:N<=6:=by have:=hc.2.1; omega
 have HYs:Hid (Fits (N:Int) E W->(0:Int)=chkW (N:Int) E W):=hid (fun h=>(chkW_yes h).symm)
 have HNo:Hid (¬ Fits (N:Int) E W->(131:Int)=chkW (N:Int) E W):=hid (fun h=>(chkW_no h).symm)
 have HFi:Hid (Fits (N:Int) E W ↔ (Seats N W/\Flo W.hs/\(∀ s∈W.hs,s.ow<(N:Int)/\s.no<W.nx)/\MayK W.ks (E.sp.length:Int)/\(∀ x∈W.ks,x.no<W.nx)/\1<=W.nx/\W.nx<=1099511627777)/\0<=W.fr/\W.fr<=1099511627776):=hid (by
  unfold Fits Ha.Good Ha.Rest
  rw [Int.toNat_natCast])
 obtain ⟨res,eres⟩:∃ k,chkW (N:Int) E W=k:=⟨_,rfl⟩
 rw [eres] at HYs HNo ⊢
 clear eres
 have HV:=hid hv
 obtain ⟨a,b,c,d,rfl,⟨xa,ya,rfl,l1,ha,hra⟩,⟨xb,yb,rfl,l2,hb,hrb⟩,⟨xc,yc,rfl,l3,hc0,hrc⟩,⟨xd,yd,rfl,l4,hd0,hrd⟩⟩:=hv
 have HRc:=hid hrc
 have HRd:=hid hrd
 clear l1 l2 l3 l4 ha hb hc0 hd0 hra hrb hrc hrd
 obtain ⟨k1,e1⟩:∃ n,W.ms.length=n:=⟨_,rfl⟩
 obtain ⟨k2,e2⟩:∃ n,W.cs.length=n:=⟨_,rfl⟩
 obtain ⟨k3,e3⟩:∃ n,W.hs.length=n:=⟨_,rfl⟩
 obtain ⟨k4,e4⟩:∃ n,W.ks.length=n:=⟨_,rfl⟩
 obtain ⟨fr,e5⟩:∃ n,W.fr=n:=⟨_,rfl⟩
 obtain ⟨nx,e6⟩:∃ n,W.nx=n:=⟨_,rfl⟩
 rw [e1,e2,e3,e4,e5,e6] at HV ⊢
 rw [e3] at HRc
 rw [e4] at HRd
 have EL:=hid (And.intro e3 (And.intro e4 (And.intro e5 e6)))
 clear e1 e2 e3 e4 e5 e6
 have A0:=Still.alloc w (.cells #[.int .i64 (N:Int),.int .u64 q,.int .i64 C,.int .i64 R,.string s,.slice lo ln lc] 27)
 have A1:=Still.alloc (w.alloc (.cells #[.int .i64 (N:Int),.int .u64 q,.int .i64 C,.int .i64 R,.string s,.slice lo ln lc] 27)) (.cells (wdcs fr nx (.slice xa k1 ya) (.slice xb k2 yb) (.slice xc k3 yc) (.slice xd k4 yd)) 33)
 have w0:=newWd_wb (w.alloc (.cells #[.int .i64 (N:Int),.int .u64 q,.int .i64 C,.int .i64 R,.string s,.slice lo ln lc] 27)) fr nx (.slice xa k1 ya) (.slice xb k2 yb) (.slice xc k3 yc) (.slice xd k4 yd)
 rw [size_alloc] at w0
 have HS0:Hid (Still w ((w.alloc (.cells #[.int .i64 (N:Int),.int .u64 q,.int .i64 C,.int .i64 R,.string s,.slice lo ln lc] 27)).alloc (.cells (wdcs fr nx (.slice xa k1 ya) (.slice xb k2 yb) (.slice xc k3 yc) (.slice xd k4 yd)) 33))):=hid (A0.trans A1)
 have HP0:Hid (Cfb ((w.alloc (.cells #[.int .i64 (N:Int),.int .u64 q,.int .i64 C,.int .i64 R,.string s,.slice lo ln lc] 27)).alloc (.cells (wdcs fr nx (.slice xa k1 ya) (.slice xb k2 yb) (.slice xc k3 yc) (.slice xd k4 yd)) 33)) w.heap.size ⟨(N:Int),q,C,R,s,.slice lo ln lc⟩):=hid ((newCf_cb w ⟨(N:Int),q,C,R,s,.slice lo ln lc⟩).still A1)
 have HW0:Hid (Wdb ((w.alloc (.cells #[.int .i64 (N:Int),.int .u64 q,.int .i64 C,.int .i64 R,.string s,.slice lo ln lc] 27)).alloc (.cells (wdcs fr nx (.slice xa k1 ya) (.slice xb k2 yb) (.slice xc k3 yc) (.slice xd k4 yd)) 33)) (w.heap.size+1) fr nx (.slice xa k1 ya) (.slice xb k2 yb) (.slice xc k3 yc) (.slice xd k4 yd)):=hid w0
 have HOp:=hid (rcfg_any ⟨(N:Int),q,C,R,s,.slice lo ln lc⟩ v0 E.st l lo ln lc rfl ((w.alloc (.cells #[.int .i64 (N:Int),.int .u64 q,.int .i64 C,.int .i64 R,.string s,.slice lo ln lc] 27)).alloc (.cells (wdcs fr nx (.slice xa k1 ya) (.slice xb k2 yb) (.slice xc k3 yc) (.slice xd k4 yd)) 33)) (A.still (A0.trans A1)) (hr.still (A0.trans A1)))
 rw [cfgE_yes (by exact hc)] at HOp
 have HSp:=hid hsp
 clear A hr hc hsp
 clear A0 A1 w0
 obtain ⟨W0,eW0⟩:∃ X,((w.alloc (.cells #[.int .i64 (N:Int),.int .u64 q,.int .i64 C,.int .i64 R,.string s,.slice lo ln lc] 27)).alloc (.cells (wdcs fr nx (.slice xa k1 ya) (.slice xb k2 yb) (.slice xc k3 yc) (.slice xd k4 yd)) 33))=X:=⟨_,rfl⟩
 rw [eW0] at HS0 HP0 HW0 HOp
 obtain ⟨c0,c1,c2,c3,c4,c5,cf⟩:=HP0.out.cells
 dsimp only at c0 c1 c2 c3 c4 c5
 go_enter Tryz.func9,Tryz.ntmps9
 go_wp2_with fail
 refine HOp.out.mono ?_
 rintro e w1 ⟨rfl,h1⟩
 have HS1:=hid (HS0.out.trans h1)
 have HP1:=hid (HP0.out.still h1)
 have HW1:=hid (HW0.out.still h1)
 clear h1 c0 c1 c2 c3 c4 c5 cf eW0 HS0 HP0 HW0 HOp
 obtain ⟨c0,c1,c2,c3,c4,c5,cf⟩:=HP1.out.cells
 dsimp only at c0 c1 c2 c3 c4 c5
 go_wp2_with fail
 refine (HSp.out w1).mono ?_
 rintro e w2 ⟨vs,rfl,ho2,h2⟩
 obtain ⟨so,sc',rfl,_⟩:=ho2.slice
 have HS2:=hid (HS1.out.trans h2)
 have HP2:=hid (HP1.out.still h2)
 have HW2:=hid (HW1.out.still h2)
 obtain ⟨sn,esn⟩:∃ k,E.sp.length=k:=⟨_,rfl⟩
 rw [esn] at HFi ⊢
 clear ho2 h2 c0 c1 c2 c3 c4 c5 cf HS1 HP1 HW1 HSp esn
 obtain ⟨c0,c1,c2,c3,c4,c5,cf⟩:=HP2.out.cells
 dsimp only at c0 c1 c2 c3 c4 c5
 obtain ⟨d0,d1,d2,d3,d4,d5,df⟩:=HW2.out.cells
 go_wp2_with fail
 refine (rmovers_any ⟨(N:Int),q,C,R,s,.slice lo ln lc⟩ N rfl hN6 W _ w2 (HV.out.still HS2.out)).mono ?_
 rintro e w3 ⟨r,rfl,⟨b,rfl,hsq⟩,h3⟩
 have HSq:=hid hsq
 have HS3:=hid (HS2.out.trans h3)
 have HP3:=hid (HP2.out.still h3)
 have HW3:=hid (HW2.out.still h3)
 clear hsq h3 c0 c1 c2 c3 c4 c5 cf d0 d1 d2 d3 d4 d5 df HS2 HP2 HW2 HV
 obtain ⟨d0,d1,d2,d3,d4,d5,df⟩:=HW3.out.cells
 go_wp2_with fail
 refine (rflo_any W.hs xc k3 yc w3 (HRc.out.still HS3.out)).mono ?_
 rintro e w4 ⟨rfl,h4⟩
 have HS4:=hid (HS3.out.trans h4)
 have HP4:=hid (HP3.out.still h4)
 have HW4:=hid (HW3.out.still h4)
 obtain ⟨fl,efl⟩:∃ b,flo W.hs=b:=⟨_,rfl⟩
 have HFl:=hid efl
 rw [efl]
 clear efl h4 d0 d1 d2 d3 d4 d5 df HS3 HP3 HW3
 obtain ⟨d0,d1,d2,d3,d4,d5,df⟩:=HW4.out.cells
 go_wp2_with fail
 refine (rchk10_any W.ks (sn:Int) xd k4 yd w4 (rdK_ofQ (HRd.out.still HS4.out))).mono ?_
 rintro e w5 ⟨rfl,h5⟩
 have HS5:=hid (HS4.out.trans h5)
 have HP5:=hid (HP4.out.still h5)
 have HW5:=hid (HW4.out.still h5)
 obtain ⟨ck,eck⟩:∃ b,chkK W.ks (sn:Int)=b:=⟨_,rfl⟩
 have HCk:=hid eck
 rw [eck]
 clear eck h5 d0 d1 d2 d3 d4 d5 df HS4 HP4 HW4
 obtain ⟨d0,d1,d2,d3,d4,d5,df⟩:=HW5.out.cells
 have HLs:=hid trivial
 cases b with
 | false =>
  have HE:=hid (HNo.out (fun h=>by have:=HSq.out.2 (HFi.out.1 h).1.1; cases this))
  clear HLs
  go_wp2_with fail
  go_ret
  exact ⟨ret_int HE.out,HS5.out⟩
 | true =>
 cases fl with
 | false =>
  have HE:=hid (HNo.out (fun h=>by have:=flo_iff.2 (HFi.out.1 h).1.2.1; rw [HFl.out] at this; cases this))
  clear HLs
  go_wp2_with fail
  go_ret
  exact ⟨ret_int HE.out,HS5.out⟩
 | true =>
 by_cases g1:ck=0
 rotate_left
 ·have g1':(ck != 0)=true:=by simpa using g1
  have HE:=hid (HNo.out (fun h=>g1 (by rw [<- HCk.out]; exact chkK_yes (HFi.out.1 h).1.2.2.2.1)))
  clear HLs
  go_wp2_with fail
  go_ret
  exact ⟨ret_int HE.out,HS5.out⟩
 subst g1
 by_cases g2:fr<0
 ·skip
  have HE:=hid (HNo.out (fun h=>by have h1:=(HFi.out.1 h).2.1; rw [EL.out.2.2.1] at h1; omega))
  clear HLs
  go_wp2_with fail
  go_ret
  exact ⟨ret_int HE.out,HS5.out⟩
 by_cases g3:fr > 1099511627776
 ·skip
  have HE:=hid (HNo.out (fun h=>by have h1:=(HFi.out.1 h).2.2; rw [EL.out.2.2.1] at h1; omega))
  clear HLs
  go_wp2_with fail
  go_ret
  exact ⟨ret_int HE.out,HS5.out⟩
 by_cases g4:nx<1
 ·skip
  have HE:=hid (HNo.out (fun h=>by have h1:=(HFi.out.1 h).1.2.2.2.2.2.1; rw [EL.out.2.2.2] at h1; omega))
  clear HLs
  go_wp2_with fail
  go_ret
  exact ⟨ret_int HE.out,HS5.out⟩
 by_cases g5:nx > 1099511627777
 ·skip
  have HE:=hid (HNo.out (fun h=>by have h1:=(HFi.out.1 h).1.2.2.2.2.2.2; rw [EL.out.2.2.2] at h1; omega))
  clear HLs
  go_wp2_with fail
  go_ret
  exact ⟨ret_int HE.out,HS5.out⟩
 have HK0:Hid (Seats N W/\Flo W.hs/\MayK W.ks (sn:Int)/\(1<=W.nx/\W.nx<=1099511627777)/\0<=W.fr/\W.fr<=1099511627776):=hid (by
  rw [EL.out.2.2.1,EL.out.2.2.2]
  exact ⟨HSq.out.1 rfl,flo_iff.1 HFl.out,chkK0.1 HCk.out,⟨by omega,by omega⟩,by omega,by omega⟩)
 go_wp2_with fail
 clear d0 d1 d2 d3 d4 d5 df HLs
 have hk3:k3<=48:=by have h:=HK0.out.2.1.1; rw [EL.out.1] at h; exact h
 have hk4:k4<=281474976710656:=by have h:=(mayK_pw.1 HK0.out.2.2.1).2.1; rw [EL.out.2.1] at h; omega
 go_loopw [10] (fun u wr=>∃ i:Nat,i<=k3/\u=.int .i64 (i:Int)/\Hid (∀ j,j<i->(ss W.hs j).ow<(N:Int)/\(ss W.hs j).no<nx)/\Still w5 wr) (fun u _=>k3 - (intOf u).toNat)
 case atStart=>exact ⟨0,by omega,rfl,hid (fun j h=>absurd h (Nat.not_lt_zero j)),Fr.refl _ _⟩
 case round =>
  obtain ⟨i,hi,rfl,HJ,hs⟩:=hrel
  have HS:=hid hs
  obtain ⟨c0,c1,c2,c3,c4,c5,cf⟩:=(HP5.out.still hs).cells
  dsimp only at c0 c1 c2 c3 c4 c5
  obtain ⟨d0,d1,d2,d3,d4,d5,df⟩:=(HW5.out.still hs).cells
  by_cases hin:i<k3
  ·have hlt:(i:Int)<(k3:Int):=by omega
   have hr:=HRc.out.still (HS5.out.trans hs)
   obtain ⟨Bk,ok,rfl⟩:=hr.at (by omega)
   obtain ⟨r0,r1,r2,r3,r4,r5,r6,r7⟩:=rdS hr hin
   have HM:Hid (ss W.hs i∈W.hs):=hid (getD_in (by rw [EL.out.1]; exact hin))
   have HD:Hid (¬ ((ss W.hs i).ow<(N:Int)/\(ss W.hs i).no<nx)->(131:Int)=res):=hid (fun h=>HNo.out (fun hf=>h (by
    have:=(HFi.out.1 hf).1.2.2.1 _ HM.out
    rw [EL.out.2.2.2] at this
    exact this)))
   have HY:Hid ((ss W.hs i).ow<(N:Int)/\(ss W.hs i).no<nx->∀ j,j<i+1->(ss W.hs j).ow<(N:Int)/\(ss W.hs j).no<nx):=hid (fun h j hj=>by
    by_cases e:j=i
    ·subst e; exact h
    ·exact HJ.out j (by omega))
   obtain ⟨x,ex⟩:∃ x,(ss W.hs i).ow=x:=⟨_,rfl⟩
   obtain ⟨y,ey⟩:∃ x,(ss W.hs i).no=x:=⟨_,rfl⟩
   rw [ex] at r1 HD HY
   rw [ey] at r0 HD HY
   clear ex ey hr hs
   have q0:=Cl.cell c0
   have q3:=Cl.cell d3
   have q5:=Cl.cell d5
   have qa:=Cl.cell r1
   have qb:=Cl.cell r0
   have hne:=Aft.here wr
   by_cases g6:x ≥ (N:Int)
   ·have f1:decide (x ≥ (N:Int))=true:=decide_eq_true g6
    have HX:=hid (HD.out (fun h=>by have:=h.1; omega))
    clear g6
    go_upto_region 13 with fail
    refine region_all (by kernel_rfl) (by kernel_rfl) ?_
    repeat (go_big_quiet_step (fail))
    refine wpQuiet_nil ?_
    intro w6 h6
    have HS6:=hid ((HS5.out.trans HS.out).trans h6)
    clear h6 hne q0 q3 q5 qa qb c0 c1 c2 c3 c4 c5 cf d0 d1 d2 d3 d4 d5 df r0 r1 r2 r3 r4 r5 r6 r7
    go_wp2_with fail
    (first | rw [Exit.noGoto_ret] | skip)
    go_ret
    exact ⟨ret_int HX.out,HS6.out⟩
   have f1:decide (x ≥ (N:Int))=false:=decide_eq_false g6
   by_cases g7:y ≥ nx
   ·have f2:decide (y ≥ nx)=true:=decide_eq_true g7
    have HX:=hid (HD.out (fun h=>by have:=h.2; omega))
    clear g6 g7
    go_upto_region 13 with fail
    refine region_all (by kernel_rfl) (by kernel_rfl) ?_
    repeat (go_big_quiet_step (fail))
    refine wpQuiet_nil ?_
    intro w6 h6
    have HS6:=hid ((HS5.out.trans HS.out).trans h6)
    clear h6 hne q0 q3 q5 qa qb c0 c1 c2 c3 c4 c5 cf d0 d1 d2 d3 d4 d5 df r0 r1 r2 r3 r4 r5 r6 r7
    go_wp2_with fail
    (first | rw [Exit.noGoto_ret] | skip)
    go_ret
    exact ⟨ret_int HX.out,HS6.out⟩
   have f2:decide (y ≥ nx)=false:=decide_eq_false g7
   have HX:=hid (HY.out ⟨by omega,by omega⟩)
   clear g6 g7
   go_upto_region 13 with fail
   refine region_all (by kernel_rfl) (by kernel_rfl) ?_
   repeat (go_big_quiet_step (fail))
   refine wpQuiet_nil ?_
   intro w6 h6
   have HS6:=hid (HS.out.trans h6)
   clear h6 hne q0 q3 q5 qa qb c0 c1 c2 c3 c4 c5 cf d0 d1 d2 d3 d4 d5 df r0 r1 r2 r3 r4 r5 r6 r7
   go_wp2_with fail
   go_roundw
   case rel=>exact ⟨i+1,by omega,by go_num,HX,HS6.out⟩
   case measure=>first | (simp [intOf]; done) | (simp [intOf]; omega)
  have hge:¬ (i:Int)<(k3:Int):=by omega
  have HAl:Hid (∀ s∈W.hs,s.ow<(N:Int)/\s.no<nx):=hid (all_getD (fun j hj=>HJ.out j (by rw [EL.out.1] at hj; omega)))
  have HS7:=hid (HS5.out.trans hs)
  have HW7:=hid (HW5.out.still hs)
  clear HJ hs hi hin c0 c1 c2 c3 c4 c5 cf
  go_wp2_with fail
  clear d0 d1 d2 d3 d4 d5 df hge
  go_loopw [11] (fun u wx=>∃ i:Nat,i<=k4/\u=.int .i64 (i:Int)/\Hid (∀ j,j<i->(pk W.ks j).no<nx)/\Still wr wx) (fun u _=>k4 - (intOf u).toNat)
  case atStart=>exact ⟨0,by omega,rfl,hid (fun j h=>absurd h (Nat.not_lt_zero j)),Fr.refl _ _⟩
  case round =>
   obtain ⟨i,hi,rfl,HJ,hs⟩:=hrel
   have HS:=hid hs
   obtain ⟨d0,d1,d2,d3,d4,d5,df⟩:=(HW7.out.still hs).cells
   by_cases hin:i<k4
   ·have hlt:(i:Int)<(k4:Int):=by omega
    have hr:=HRd.out.still (HS7.out.trans hs)
    obtain ⟨Bk,ok,rfl⟩:=hr.at (by omega)
    obtain ⟨r0,r1,r2⟩:=rdQ hr hin
    have HM:Hid (pk W.ks i∈W.ks):=hid (getD_in (by rw [EL.out.2.1]; exact hin))
    have HD:Hid (¬ (pk W.ks i).no<nx->(131:Int)=res):=hid (fun h=>HNo.out (fun hf=>h (by
     have:=(HFi.out.1 hf).1.2.2.2.2.1 _ HM.out
     rw [EL.out.2.2.2] at this
     exact this)))
    have HY:Hid ((pk W.ks i).no<nx->∀ j,j<i+1->(pk W.ks j).no<nx):=hid (fun h j hj=>by
     by_cases e:j=i
     ·subst e; exact h
     ·exact HJ.out j (by omega))
    obtain ⟨y,ey⟩:∃ x,(pk W.ks i).no=x:=⟨_,rfl⟩
    rw [ey] at r0 HD HY
    clear ey hr hs
    have q4:=Cl.cell d4
    have q5:=Cl.cell d5
    have qa:=Cl.cell r0
    have hne:=Aft.here wr
    by_cases g7:y ≥ nx
    ·have f2:decide (y ≥ nx)=true:=decide_eq_true g7
     have HX:=hid (HD.out (fun h=>by omega))
     clear g7
     go_upto_region 18 with fail
     refine region_all (by kernel_rfl) (by kernel_rfl) ?_
     repeat (go_big_quiet_step (fail))
     refine wpQuiet_nil ?_
     intro w6 h6
     have HS6:=hid ((HS7.out.trans HS.out).trans h6)
     clear h6 hne q4 q5 qa d0 d1 d2 d3 d4 d5 df r0 r1 r2
     go_wp2_with fail
     (first | rw [Exit.noGoto_ret] | skip)
     go_ret
     exact ⟨ret_int HX.out,HS6.out⟩
    have f2:decide (y ≥ nx)=false:=decide_eq_false g7
    have HX:=hid (HY.out (by omega))
    clear g7
    go_upto_region 18 with fail
    refine region_all (by kernel_rfl) (by kernel_rfl) ?_
    repeat (go_big_quiet_step (fail))
    refine wpQuiet_nil ?_
    intro w6 h6
    have HS6:=hid (HS.out.trans h6)
    clear h6 hne q4 q5 qa d0 d1 d2 d3 d4 d5 df r0 r1 r2
    go_wp2_with fail
    go_roundw
    case rel=>exact ⟨i+1,by omega,by go_num,HX,HS6.out⟩
    case measure=>first | (simp [intOf]; done) | (simp [intOf]; omega)
   have hge:¬ (i:Int)<(k4:Int):=by omega
   have HAk:Hid (∀ s∈W.ks,s.no<nx):=hid (all_getD (fun j hj=>HJ.out j (by rw [EL.out.2.1] at hj; omega)))
   have HX:Hid ((0:Int)=res):=hid (HYs.out (HFi.out.2 (by
    have k:=HK0.out
    have e:=EL.out.2.2.2
    refine ⟨⟨k.1,k.2.1, ?_,k.2.2.1, ?_,k.2.2.2.1.1,k.2.2.2.1.2⟩,k.2.2.2.2⟩
    ·rw [e]; exact HAl.out
    ·rw [e]; exact HAk.out)))
   have HS6:=hid (HS7.out.trans hs)
   clear HJ hs hi hin
   go_wp2_with fail
   go_ret
   exact ⟨ret_int HX.out,HS6.out⟩
end Go.Proofs.YtonchpgmdnekpaaGreatDoor
