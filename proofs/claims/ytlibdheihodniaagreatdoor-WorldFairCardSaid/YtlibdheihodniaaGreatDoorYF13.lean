/- Parts of the proof, laid end to end. -/
import Derived.Test.YtlibdheihodniaaGreatDoorYF12
import Derived.Shelf.Abstract
import Derived.Test.YtlibdheihodniaaGreatDoorYF02
import Derived.Test.YtlibdheihodniaaGreatDoorYF01
set_option maxHeartbeats 4000000
namespace Go.Proofs.YtlibdheihodniaaGreatDoor
open Go.RowKit Go.Shelf
open Vp
set_option maxRecDepth 100000
theorem Vkb.lt {w:World} {g:Nat} {s:ByteArray} {x:Value} (h:Vkb w g s x):g<w.heap.size:=block_lt h
theorem look_acc {w:World} {b:Nat} (h:Acb w b) (v:Int) (k:Nat) (z:Value) (hf:Instr.findNow (.int .i64) (.int .i64 v) acE.toList 0=some (some (k,z))) (ok:Bool) :
  (Instr.lookup 198 (.map (some b)) (.int .i64 v) ok).run Tryz.prog w=.ok (if ok then .tuple #[z,.bool true] else z) w:=by
 have h':w.heap[b]?=some (.map acE 7):=h
 cases ok <;> simp [Instr.lookup,run_underlying Tryz.underlying198,MapKept.run_getObj_map h',chk_key,find_key v _ _ hf,Result.andThen]
theorem look_no {w:World} {b:Nat} (h:Acb w b) (v:Int) (hv:isV v=false) :
  ∃ z,(Instr.lookup 198 (.map (some b)) (.int .i64 v) true).run Tryz.prog w=.ok (.tuple #[z,.bool false]) w:=by
 have h':w.heap[b]?=some (.map acE 7):=h
 have hf:Instr.findNow (.int .i64) (.int .i64 v) acE.toList 0=some none:=by
  have:=isV_no.1 hv
  have e:∀ n:Int,1<=n->n<=7->(v == n)=false:=fun n h1 h2=>by simp; omega
  simp [acE,Instr.findNow,Instr.sameNow,e 1,e 2,e 3,e 4,e 5,e 6,e 7]
 have hz:∃ z,(zeroValue 196).run Tryz.prog w=.ok z w:=⟨.nilFunc,by go_simp⟩
 obtain ⟨z,hz⟩:=hz
 refine ⟨z, ?_⟩
 simp [Instr.lookup,run_underlying Tryz.underlying198,MapKept.run_getObj_map h',chk_key,find_key v _ _ hf,Result.andThen,hz]
theorem Vkb.rest {fn:Func} {p q:Tmp} {w:World} {g:Nat} {s:ByteArray} {x:Value} (hb:Vkb w g s x) (h:fn.results=#[.cell p 150,.tmp q]) (tmps:Array Value) (t:Value) (hp:tmps.getD p undef=.pointer (some ⟨g,0,none⟩)) (hq:tmps.getD q undef=t) :
  (results fn tmps).run Tryz.prog w=.ok (.tuple #[.agg #[.string s,x],t]) w:=by
 rw [results_cell_tmp h,hp,hq]
 simp [asAddr,Result.andThen,load_kind w g s x hb.cells.1 hb.cells.2.1]
abbrev setK (w:World) (g:Nat) (s:ByteArray) (x:Value):World:=(w.setCell ⟨g,0,none⟩ (.string s)).setCell ⟨g,1,none⟩ x
theorem Vkb.set {w:World} {g:Nat} {s:ByteArray} {x:Value} (h:Vkb w g s x) (s':ByteArray) (x':Value):Vkb (setK w g s' x') g s' x':=by
 unfold Vkb
 have h1:=heap_setCell_same w g 0 _ _ (.string s') h
 have h2:=heap_setCell_same _ g 1 _ _ x' h1
 rw [h2]; rfl
theorem setK_fr {F:Nat->Prop} {y w:World} (h:Fr F y w) (g:Nat) (s:ByteArray) (x:Value) (hb:F g\/y.heap.size<=g):Fr F y (setK w g s x):=(h.setCell _ _ hb).setCell _ _ hb
theorem kind_no (v:Int) (hv:isV v=false) (w:World):Calls Tryz.prog 97 #[.int .i64 v] w fun e w'=>e=.returned (.tuple #[.agg #[.string ByteArray.empty,.slice none 0 0],.bool false])/\Still w w':=by
 have q:=newVk_vkb w ByteArray.empty (.slice none 0 0)
 have HS0:=hid (Still.alloc w (.cells #[.string ByteArray.empty,.slice none 0 0] 150))
 go_enter Tryz.func97,Tryz.ntmps97
 go_wp2_with fail
 refine (acc_any _).mono ?_
 rintro e w1 ⟨b,rfl,hb,ha,h1⟩
 obtain ⟨z,hl⟩:=look_no ha v hv
 have q1:=q.still h1
 have HS1:=hid (HS0.out.trans h1)
 obtain ⟨c0,c1,cf⟩:=q1.cells
 clear h1 hb HS0 q hv
 go_wp2_with fail
 exact bodyPost_ret ((q1.set _ _).rest rfl _ _ rfl rfl) rfl ⟨rfl,setK_fr HS1.out _ _ _ (.inr (Nat.le_refl _))⟩
theorem meth {v:Int} (hv:isV v=true):∃ f,(∀ w b,Acb w b->∀ ok,(Instr.lookup 198 (.map (some b)) (.int .i64 v) ok).run Tryz.prog w=.ok (if ok then .tuple #[mth f,.bool true] else mth f) w) /\
  (∀ args w,(callFunc f args).run Tryz.prog w=.ok (.enter f args) w) /\
  (∀ w,Calls Tryz.prog f #[.agg #[]] w fun e w'=>∃ x,e=.returned (.agg #[.string (nmV v),x])/\OwO w' w.heap.size x (opV v)/\Still w w'):=by
 rcases verbs hv with rfl | rfl | rfl | rfl | rfl | rfl | rfl
 ·exact ⟨176,fun w b h ok=>look_acc h 1 0 _ rfl ok,enters_of Tryz.func176 (by kernel_rfl) rfl,steer_any⟩
 ·exact ⟨177,fun w b h ok=>look_acc h 2 1 _ rfl ok,enters_of Tryz.func177 (by kernel_rfl) rfl,halt_any⟩
 ·exact ⟨178,fun w b h ok=>look_acc h 3 2 _ rfl ok,enters_of Tryz.func178 (by kernel_rfl) rfl,aim_any⟩
 ·exact ⟨179,fun w b h ok=>look_acc h 4 3 _ rfl ok,enters_of Tryz.func179 (by kernel_rfl) rfl,vfire_any⟩
 ·exact ⟨180,fun w b h ok=>look_acc h 5 4 _ rfl ok,enters_of Tryz.func180 (by kernel_rfl) rfl,shield_any⟩
 ·exact ⟨181,fun w b h ok=>look_acc h 6 5 _ rfl ok,enters_of Tryz.func181 (by kernel_rfl) rfl,dash_any⟩
 ·exact ⟨182,fun w b h ok=>look_acc h 7 6 _ rfl ok,enters_of Tryz.func182 (by kernel_rfl) rfl,say_any⟩
theorem kind_is (v:Int) (hv:isV v=true) (w:World):Calls Tryz.prog 97 #[.int .i64 v] w fun e w'=>∃ x,e=.returned (.tuple #[.agg #[.string (nmV v),x],.bool true])/\OwO w' w.heap.size x (opV v)/\Still w w':=by
 have q:=newVk_vkb w ByteArray.empty (.slice none 0 0)
 have HS0:=hid (Still.alloc w (.cells #[.string ByteArray.empty,.slice none 0 0] 150))
 obtain ⟨f,hl,ef,hm⟩:=meth hv
 have HL:=hid hl
 have HM:=hid hm
 clear hl hm hv
 go_enter Tryz.func97,Tryz.ntmps97
 go_wp2_with fail
 refine (acc_any _).mono ?_
 rintro e w1 ⟨b,rfl,hb,ha,h1⟩
 have hl:=HL.out _ _ ha true
 have q1:=q.still h1
 have HS1:=hid (HS0.out.trans h1)
 clear h1 hb HS0 q
 go_wp2_with fail
 refine (HM.out _).mono ?_
 rintro e w2 ⟨x,rfl,ho,h2⟩
 obtain ⟨ao,cap,rfl,hao⟩:=ho.slice
 have q2:=q1.still h2
 have HS2:=hid (HS1.out.trans h2)
 have HO:=hid (And.intro ho (And.intro HS1.out.size q1.lt))
 obtain ⟨c0,c1,cf⟩:=q2.cells
 clear h2 HS1 q1 ho hao
 go_wp2_with fail
 refine bodyPost_ret ((q2.set _ _).rest rfl _ _ rfl rfl) rfl ⟨_,rfl, ?_,setK_fr HS2.out _ _ _ (.inr (Nat.le_refl _))⟩
 obtain ⟨h1,h2,h3⟩:=HO.out
 refine (h1.keep (setK_fr (F:=fun k=>k=w.heap.size) (Fr.refl _ _) _ _ _ (.inl rfl)) ?_).less h2
 rintro k rfl e
 have:=(h1.block e).1
 omega
theorem kind_any (v:Int) (w:World):Calls Tryz.prog 97 #[.int .i64 v] w fun e w'=>∃ ao n cap,e=.returned (.tuple #[.agg #[.string (nmV v),.slice ao n cap],.bool (isV v)])/\OwO w' w.heap.size (.slice ao n cap) (opV v)/\Still w w':=by
 cases hv:isV v with
 | true =>
  refine (kind_is v hv w).mono ?_
  rintro e w' ⟨x,rfl,ho,hs⟩
  obtain ⟨ao,cap,rfl,hao⟩:=ho.slice
  exact ⟨_,_,_,rfl,ho,hs⟩
 | false =>
  refine (kind_no v hv w).mono ?_
  rintro e w' ⟨rfl,hs⟩
  have e1:nmV v=ByteArray.empty:=by unfold nmV; rw [hv]; rfl
  have e2:opV v=[]:=by unfold opV; rw [hv]; rfl
  exact ⟨none,0,0,by rw [e1],by rw [e2]; exact OwO.nil _ _,hs⟩
end Go.Proofs.YtlibdheihodniaaGreatDoor
namespace Go.Proofs.YtlibdheihodniaaGreatDoor
open Go.RowKit
open Vp
set_option maxRecDepth 100000
def N3 (w:World) (g:Nat) (a b c:Int):Prop:=w.heap[g]?=some (.cells #[.int .i64 a,.int .i64 b,.int .i64 c] 153 (0,0))
theorem N3.cells {w:World} {g:Nat} {a b c:Int} (h:N3 w g a b c) :
  w.cell? ⟨g,0,none⟩=some (.int .i64 a)/\w.cell? ⟨g,1,none⟩=some (.int .i64 b)/\w.cell? ⟨g,2,none⟩=some (.int .i64 c)/\∀ o,w.frozen? ⟨g,o,none⟩=false:=by
 refine ⟨?_, ?_, ?_,fun o=>frozen_of_row w g o _ _ h⟩ <;> (rw [cell_of_row _ _ _ _ _ _ h]; rfl)
theorem newN3 (w:World) (a b c:Int):N3 (w.alloc (.cells #[.int .i64 a,.int .i64 b,.int .i64 c] 153)) w.heap.size a b c:=heap_alloc_new w _
abbrev n3 (a b c:Int):Value:=.agg #[.int .i64 a,.int .i64 b,.int .i64 c]
theorem load_n3 (w:World) (g:Nat) (a b c:Int) (c0:w.cell? ⟨g,0,none⟩=some (.int .i64 a)) (c1:w.cell? ⟨g,1,none⟩=some (.int .i64 b)) (c2:w.cell? ⟨g,2,none⟩=some (.int .i64 c)):(loadVar 153 ⟨g,0,none⟩).run Tryz.prog w=.ok (n3 a b c) w:=by
 go_simp
theorem N3.res {fn:Func} {p:Tmp} {w:World} {g:Nat} {a b c:Int} (hb:N3 w g a b c) (h:fn.results=#[.cell p 153]) (tmps:Array Value) (hp:tmps.getD p undef=.pointer (some ⟨g,0,none⟩)) :
  (results fn tmps).run Tryz.prog w=.ok (n3 a b c) w:=by
 have hp':tmps[p]?.getD undef=.pointer (some ⟨g,0,none⟩):=by simpa using hp
 simp [results,h,hp',asAddr,load_n3 w g a b c hb.cells.1 hb.cells.2.1 hb.cells.2.2.1]
theorem numbers_any (v a b c:Int) (w:World):Calls Tryz.prog 98 #[od v a b c] w fun e w'=>e=.returned (n3 a b c)/\Still w w':=by
 have p:=newO_orb w v a b c
 have HS0:=hid (Still.alloc w (.cells #[.int .i64 v,.int .i64 a,.int .i64 b,.int .i64 c] 58))
 go_enter Tryz.func98,Tryz.ntmps98
 go_wp2_with fail
 have h:=newN3 (newO w v a b c) a b c
 rw [sz] at h
 exact bodyPost_ret (h.res rfl _ rfl) rfl ⟨rfl,HS0.out.trans (Still.alloc _ _)⟩
abbrev opw (s:ByteArray) (x y:Int):Value:=.agg #[.string s,.int .i64 x,.int .i64 y]
theorem load_opb (w:World) (g o:Nat) (s:ByteArray) (x y:Int) (c0:w.cell? ⟨g,o,none⟩=some (.string s)) (c1:w.cell? ⟨g,o+1,none⟩=some (.int .i64 x)) (c2:w.cell? ⟨g,o+2,none⟩=some (.int .i64 y)):(loadVar 156 ⟨g,o,none⟩).run Tryz.prog w=.ok (opw s x y) w:=by
 go_simp
theorem Opb.res {fn:Func} {p:Tmp} {w:World} {g:Nat} {s:ByteArray} {x y:Int} (hb:Opb w g s x y) (h:fn.results=#[.cell p 156]) (tmps:Array Value) (hp:tmps.getD p undef=.pointer (some ⟨g,0,none⟩)) :
  (results fn tmps).run Tryz.prog w=.ok (opw s x y) w:=by
 have hp':tmps[p]?.getD undef=.pointer (some ⟨g,0,none⟩):=by simpa using hp
 simp [results,h,hp',asAddr,load_opb w g 0 s x y hb.cells.1 hb.cells.2.1 hb.cells.2.2.1]
theorem vat_in (s0:ByteArray) (ao:Option Addr) (n cap:Nat) (ps:List (ByteArray × Int × Int)) (k:Nat) (hk:k<ps.length) (hk2:k<3) (B:Nat) (w:World) (ho:OwO w B (.slice ao n cap) ps) :
  Calls Tryz.prog 99 #[.agg #[.string s0,.slice ao n cap],.int .i64 (k:Int)] w fun e w'=>e=.returned (opw ps[k].1 ps[k].2.1 ps[k].2.2)/\Still w w':=by
 obtain ⟨g,cap',e,hB,hg⟩:=ho.head (by omega)
 cases e
 obtain ⟨d0,d1,d2,df⟩:=ho.cell k hk
 have hki:(k:Int)<(ps.length:Int):=by omega
 have HS0:=hid (Still.alloc w (.cells #[.string s0,.slice (some ⟨g,0,none⟩) ps.length cap] 150))
 obtain ⟨x0,ex0⟩:∃ x,ps[k].1=x:=⟨_,rfl⟩
 obtain ⟨x1,ex1⟩:∃ x,ps[k].2.1=x:=⟨_,rfl⟩
 obtain ⟨x2,ex2⟩:∃ x,ps[k].2.2=x:=⟨_,rfl⟩
 rw [ex0] at d0 ⊢
 rw [ex1] at d1 ⊢
 rw [ex2] at d2 ⊢
 clear ex0 ex1 ex2 ho
 go_enter Tryz.func99,Tryz.ntmps99
 go_wp2_with fail
 have h:=newOp_opb (newVk w s0 (.slice (some ⟨g,0,none⟩) ps.length cap)) x0 x1 x2
 rw [sz] at h
 exact bodyPost_ret (h.res rfl _ rfl) rfl ⟨rfl,HS0.out.trans (Still.alloc _ _)⟩
theorem at_out (s0:ByteArray) (ao:Option Addr) (n cap:Nat) (k:Nat) (hk:n<=k) (w:World) :
  Calls Tryz.prog 99 #[.agg #[.string s0,.slice ao n cap],.int .i64 (k:Int)] w fun e w'=>e=.returned (opw ByteArray.empty 0 0)/\Still w w':=by
 have hki:¬ (k:Int)<(n:Int):=by omega
 have HS0:=hid (Still.alloc w (.cells #[.string s0,.slice ao n cap] 150))
 go_enter Tryz.func99,Tryz.ntmps99
 go_wp2_with fail
 have h:=newOp_opb (newVk w s0 (.slice ao n cap)) ByteArray.empty 0 0
 rw [sz] at h
 exact bodyPost_ret (h.res rfl _ rfl) rfl ⟨rfl,HS0.out.trans (Still.alloc _ _)⟩
def rg (ps:List (ByteArray × Int × Int)) (k:Nat):ByteArray × Int × Int:=ps.getD k (ByteArray.empty,0,0)
theorem vat_any (s0:ByteArray) (ao:Option Addr) (n cap:Nat) (ps:List (ByteArray × Int × Int)) (k:Nat) (hk2:k<3) (B:Nat) (w:World) (ho:OwO w B (.slice ao n cap) ps) :
  Calls Tryz.prog 99 #[.agg #[.string s0,.slice ao n cap],.int .i64 (k:Int)] w fun e w'=>e=.returned (opw (rg ps k).1 (rg ps k).2.1 (rg ps k).2.2)/\Still w w':=by
 obtain ⟨ao',cap',e,_⟩:=ho.slice
 cases e
 by_cases hk:k<ps.length
 ·have e:rg ps k=ps[k]:=by unfold rg; simp [hk]
  rw [e]
  exact vat_in s0 ao _ cap ps k hk hk2 B w ho
 ·have e:rg ps k=(ByteArray.empty,0,0):=by unfold rg; rw [List.getD_eq_getElem?_getD,List.getElem?_eq_none (by omega)]; rfl
  rw [e]
  exact at_out s0 ao _ cap k (by omega) w
theorem ix3 (a b c:Int) (k:Nat) (h:k<3) (w:World):(Instr.index 153 (n3 a b c) (.int .i64 (k:Int))).run Tryz.prog w=.ok (.int .i64 (gv a b c k)) w:=by
 have hs:(sizeOf 3).run Tryz.prog w=.ok 1 w:=by go_simp
 have ha:(isAgg 3).run Tryz.prog w=.ok false w:=by go_simp
 match k,h with
 | 0,_=>simp [Instr.index,asIntOf,run_underlying Tryz.underlying153,part,hs,ha,gv,Result.andThen]
 | 1,_=>simp [Instr.index,asIntOf,run_underlying Tryz.underlying153,part,hs,ha,gv,Result.andThen]
 | 2,_=>simp [Instr.index,asIntOf,run_underlying Tryz.underlying153,part,hs,ha,gv,Result.andThen]
def inr (v:Int) (k:Nat) (n:Int):Prop:=(rg (opV v) k).2.1<=n/\n<=(rg (opV v) k).2.2
theorem ok_in {v a b c:Int} (hv:isV v=true):okO v a b c=true ↔ inr v 0 a/\inr v 1 b/\inr v 2 c:=by
 unfold okO inr rg opV
 rw [hv]
 rcases verbs hv with rfl | rfl | rfl | rfl | rfl | rfl | rfl <;> simp [lo,hi,loL,hiL] <;> omega
theorem chk_no {v:Int} (hv:isV v=false) (a b c:Int):chkO v a b c=70:=by unfold chkO; rw [hv]; rfl
theorem chk_in0 {v a b c:Int} (hv:isV v=true) (h:∀ k,k<3->inr v k (gv a b c k)):chkO v a b c=0:=by
 unfold chkO
 have e:okO v a b c=true:=(ok_in hv).2 ⟨h 0 (by omega),h 1 (by omega),h 2 (by omega)⟩
 rw [if_pos hv,if_pos e]
theorem chk_out {v a b c:Int} (hv:isV v=true) {k:Nat} (hk:k<3) (h:¬ inr v k (gv a b c k)):chkO v a b c=71:=by
 unfold chkO
 rw [if_pos hv,if_neg ?_]
 intro e
 obtain ⟨h0,h1,h2⟩:=(ok_in hv).1 e
 match k,hk,h with
 | 0,_,h=>exact h h0
 | 1,_,h=>exact h h1
 | 2,_,h=>exact h h2
theorem vcheck_no (v a b c:Int) (hv:isV v=false) (w:World):Calls Tryz.prog 56 #[od v a b c] w fun e w'=>e=.returned (.int .i64 70)/\Still w w':=by
 have p:=newO_orb w v a b c
 have HS0:=hid (Still.alloc w (.cells #[.int .i64 v,.int .i64 a,.int .i64 b,.int .i64 c] 58))
 obtain ⟨c0,c1,c2,c3,cf⟩:=p.cells
 go_enter Tryz.func56,Tryz.ntmps56
 go_wp2_with fail
 refine (kind_any v _).mono ?_
 rintro e w1 ⟨ao,n,cap,rfl,ho,h1⟩
 rw [hv]
 have HS1:=hid ((HS0.out.trans h1).trans (Still.alloc w1 (.cells #[.string (nmV v),.slice ao n cap] 150)))
 clear h1 ho HS0
 go_wp2_with fail
 go_ret
 exact ⟨rfl,HS1.out⟩
theorem vcheck_is (v a b c:Int) (hv:isV v=true) (w:World):Calls Tryz.prog 56 #[od v a b c] w fun e w'=>e=.returned (.int .i64 (chkO v a b c))/\Still w w':=by
 have p:=newO_orb w v a b c
 have HS0:=hid (Still.alloc w (.cells #[.int .i64 v,.int .i64 a,.int .i64 b,.int .i64 c] 58))
 have HI:=hid (fun h=>chk_in0 (a:=a) (b:=b) (c:=c) hv h)
 have HO:=hid (fun (k:Nat) (hk:k<3) h=>chk_out (a:=a) (b:=b) (c:=c) hv hk h)
 obtain ⟨c0,c1,c2,c3,cf⟩:=p.cells
 obtain ⟨x,ex⟩:∃ x,chkO v a b c=x:=⟨_,rfl⟩
 rw [ex] at HI HO ⊢
 clear ex
 go_enter Tryz.func56,Tryz.ntmps56
 go_wp2_with fail
 refine (kind_any v _).mono ?_
 rintro e w1 ⟨ao,n,cap,rfl,ho,h1⟩
 rw [hv]
 have A1:=Still.alloc w1 (.cells #[.string (nmV v),.slice ao n cap] 150)
 have p1:=(p.still h1).still A1
 have q1:=newVk_vkb w1 (nmV v) (.slice ao n cap)
 have HW:=hid (ho.still A1)
 have HS1:=hid ((HS0.out.trans h1).trans A1)
 have hb1:w1.heap.size=w1.heap.size:=rfl
 clear h1 ho HS0 A1 p hb1 c0 c1 c2 c3 cf hv
 obtain ⟨c0,c1,c2,c3,cf⟩:=p1.cells
 go_wp2_with fail
 refine (numbers_any v a b c _).mono ?_
 rintro e w2 ⟨rfl,h2⟩
 have q2:=q1.still h2
 have HW2:=hid (HW.out.still h2)
 have HS2:=hid (HS1.out.trans h2)
 clear h2 HS1 HW q1 p1 c0 c1 c2 c3 cf
 go_wp2_with fail
 go_loopw [18] (fun i wr=>∃ k:Nat,k<=3/\i=.int .i64 (k:Int)/\Hid (∀ j,j<k->inr v j (gv a b c j))/\Still w2 wr) (fun i _=>3 - (intOf i).toNat)
 case atStart=>exact ⟨0,by omega,rfl,hid (fun j h=>by omega),Fr.refl _ _⟩
 case round =>
  obtain ⟨k,hk,rfl,HF,hs⟩:=hrel
  have q3:=q2.still hs
  have HW3:=hid (HW2.out.still hs)
  have HS3:=hid (HS2.out.trans hs)
  have HSr:=hid hs
  clear hs HS2 HW2 q2
  obtain ⟨k0,k1,kf⟩:=q3.cells
  by_cases h3:k<3
  ·have hix:=ix3 a b c k h3
   have hki:(k:Int)<3:=by omega
   have HA:=hid (vat_any (nmV v) ao n cap (opV v) k h3 _ wr HW3.out)
   have HE:Hid ((rg (opV v) k).2.1<=gv a b c k->gv a b c k<=(rg (opV v) k).2.2->∀ j,j<k+1->inr v j (gv a b c j)):=hid (fun y1 y2 j hj=>by
    by_cases e:j=k
    ·subst e; exact ⟨y1,y2⟩
    ·exact HF.out j (by omega))
   have HX:Hid (¬ ((rg (opV v) k).2.1<=gv a b c k/\gv a b c k<=(rg (opV v) k).2.2)->x=71):=hid (HO.out k h3)
   obtain ⟨y,ey⟩:∃ y,gv a b c k=y:=⟨_,rfl⟩
   obtain ⟨r0,er0⟩:∃ y,(rg (opV v) k).1=y:=⟨_,rfl⟩
   obtain ⟨r1,er1⟩:∃ y,(rg (opV v) k).2.1=y:=⟨_,rfl⟩
   obtain ⟨r2,er2⟩:∃ y,(rg (opV v) k).2.2=y:=⟨_,rfl⟩
   rw [er0,er1,er2] at HA
   rw [er1,er2,ey] at HE HX
   rw [ey] at hix
   clear er0 er1 er2 ey HF
   go_wp2_with fail
   refine HA.out.mono ?_
   rintro e w4 ⟨rfl,h4⟩
   have o4:=newOp_opb w4 r0 r1 r2
   have A4:=Still.alloc w4 (.cells #[.string r0,.int .i64 r1,.int .i64 r2] 156)
   have HS4:=hid ((HS3.out.trans h4).trans A4)
   have HR4:=hid ((HSr.out.trans h4).trans A4)
   obtain ⟨d0,d1,d2,df⟩:=o4.cells
   clear h4 A4 HS3 HSr HA HW3 hix
   by_cases g1:y<r1
   ·go_wp2_with fail
    go_ret
    exact ⟨by rw [HX.out (by omega)]; rfl,HS4.out⟩
   ·by_cases g2:r2<y
    ·go_wp2_with fail
     go_ret
     exact ⟨by rw [HX.out (by omega)]; rfl,HS4.out⟩
    ·have g3:¬ y > r2:=g2
     go_wp2_with fail
     go_roundw
     case measure=>simp [intOf]; omega
     case rel=>exact ⟨k+1,by omega,by simp,hid (HE.out (by omega) (by omega)),HR4.out⟩
  ·obtain rfl:k=3:=by omega
   have e:=HI.out HF.out
   go_wp2_with fail
   go_ret
   exact ⟨by rw [e]; rfl,HS3.out⟩
theorem vcheck_any (v a b c:Int) (w:World):Calls Tryz.prog 56 #[od v a b c] w fun e w'=>e=.returned (.int .i64 (chkO v a b c))/\Still w w':=by
 cases hv:isV v with
 | true=>exact vcheck_is v a b c hv w
 | false=>rw [chk_no hv]; exact vcheck_no v a b c hv w
end Go.Proofs.YtlibdheihodniaaGreatDoor
namespace Go.Proofs.YtlibdheihodniaaGreatDoor
open Go.RowKit
open Pu Gp Ap Vp Np
set_option maxRecDepth 100000
def Dn (g:Nat) (w w':World) (n:Mv):Prop:=Wb w' g n/\Fr (fun k=>k=g) w w'
theorem Dn.over {x w w':World} {g:Nat} {n:Mv} (h:Dn g w w' n) (hs:Still x w) (hg:x.heap.size<=g):Still x w':=Fr.trans hs h.2 fun k hk e=>by subst e; omega
theorem wsteer (g:Nat) (m:Mv) (v a b c:Int) (ha1:-8<=a) (ha2:a<=8) (hb1:-8<=b) (hb2:b<=8) (w:World) (h:Wb w g m):Calls Tryz.prog 183 #[.pointer (some ⟨g,0,none⟩),od v a b c] w fun e w'=>e=.returned (.bool true)/\Dn g w w' { m with px:=32*a,py:=32*b }:=by
 have A0:=Still.alloc w (.cells #[.int .i64 v,.int .i64 a,.int .i64 b,.int .i64 c] 58)
 have p0:=h.still A0
 have o0:=newO_orb w v a b c
 have HF:=hid (Still.to (F:=fun k=>k=g) A0)
 clear A0
 obtain ⟨c0,c1,c2,c3,c4,c5,c6,c7,c8,c9,c10,c11,c12,cf⟩:=p0.cells
 obtain ⟨d0,d1,d2,d3,df⟩:=o0.cells
 go_enter Tryz.func183,Tryz.ntmps183
 go_wp2_with fail
 go_ret
 exact ⟨rfl,(p0.px _).py _,(HF.out.setCell _ _ (.inl rfl)).setCell _ _ (.inl rfl)⟩
theorem whalt (g:Nat) (m:Mv) (v a b c:Int) (w:World) (h:Wb w g m):Calls Tryz.prog 184 #[.pointer (some ⟨g,0,none⟩),od v a b c] w fun e w'=>e=.returned (.bool true)/\Dn g w w' { m with px:=0,py:=0 }:=by
 have A0:=Still.alloc w (.cells #[.int .i64 v,.int .i64 a,.int .i64 b,.int .i64 c] 58)
 have p0:=h.still A0
 have o0:=newO_orb w v a b c
 have HF:=hid (Still.to (F:=fun k=>k=g) A0)
 clear A0
 obtain ⟨c0,c1,c2,c3,c4,c5,c6,c7,c8,c9,c10,c11,c12,cf⟩:=p0.cells
 obtain ⟨d0,d1,d2,d3,df⟩:=o0.cells
 go_enter Tryz.func184,Tryz.ntmps184
 go_wp2_with fail
 go_ret
 exact ⟨rfl,(p0.px _).py _,(HF.out.setCell _ _ (.inl rfl)).setCell _ _ (.inl rfl)⟩
theorem waim (g:Nat) (m:Mv) (v a b c:Int) (w:World) (h:Wb w g m):Calls Tryz.prog 185 #[.pointer (some ⟨g,0,none⟩),od v a b c] w fun e w'=>e=.returned (.bool true)/\Dn g w w' { m with fc:=a }:=by
 have A0:=Still.alloc w (.cells #[.int .i64 v,.int .i64 a,.int .i64 b,.int .i64 c] 58)
 have p0:=h.still A0
 have o0:=newO_orb w v a b c
 have HF:=hid (Still.to (F:=fun k=>k=g) A0)
 clear A0
 obtain ⟨c0,c1,c2,c3,c4,c5,c6,c7,c8,c9,c10,c11,c12,cf⟩:=p0.cells
 obtain ⟨d0,d1,d2,d3,df⟩:=o0.cells
 go_enter Tryz.func185,Tryz.ntmps185
 go_wp2_with fail
 go_ret
 exact ⟨rfl,p0.fc _,HF.out.setCell _ _ (.inl rfl)⟩
theorem wsay (g:Nat) (m:Mv) (v a b c:Int) (w:World) (h:Wb w g m):Calls Tryz.prog 189 #[.pointer (some ⟨g,0,none⟩),od v a b c] w fun e w'=>e=.returned (.bool true)/\Dn g w w' { m with sd:=a }:=by
 have A0:=Still.alloc w (.cells #[.int .i64 v,.int .i64 a,.int .i64 b,.int .i64 c] 58)
 have p0:=h.still A0
 have o0:=newO_orb w v a b c
 have HF:=hid (Still.to (F:=fun k=>k=g) A0)
 clear A0
 obtain ⟨c0,c1,c2,c3,c4,c5,c6,c7,c8,c9,c10,c11,c12,cf⟩:=p0.cells
 obtain ⟨d0,d1,d2,d3,df⟩:=o0.cells
 go_enter Tryz.func189,Tryz.ntmps189
 go_wp2_with fail
 go_ret
 exact ⟨rfl,p0.sd _,HF.out.setCell _ _ (.inl rfl)⟩
theorem wshield0 (g:Nat) (m:Mv) (v a b c:Int) (ha:(a == 0)=true) (w:World) (h:Wb w g m):Calls Tryz.prog 187 #[.pointer (some ⟨g,0,none⟩),od v a b c] w fun e w'=>e=.returned (.bool true)/\Dn g w w' { m with sh:=false }:=by
 have A0:=Still.alloc w (.cells #[.int .i64 v,.int .i64 a,.int .i64 b,.int .i64 c] 58)
 have p0:=h.still A0
 have o0:=newO_orb w v a b c
 have HF:=hid (Still.to (F:=fun k=>k=g) A0)
 clear A0
 obtain ⟨c0,c1,c2,c3,c4,c5,c6,c7,c8,c9,c10,c11,c12,cf⟩:=p0.cells
 obtain ⟨d0,d1,d2,d3,df⟩:=o0.cells
 go_enter Tryz.func187,Tryz.ntmps187
 go_wp2_with fail
 go_ret
 exact ⟨rfl,p0.sh _,HF.out.setCell _ _ (.inl rfl)⟩
theorem wshield1 (g:Nat) (m:Mv) (v a b c:Int) (ha:(a == 0)=false) (he:(m.en == 0)=false) (w:World) (h:Wb w g m):Calls Tryz.prog 187 #[.pointer (some ⟨g,0,none⟩),od v a b c] w fun e w'=>e=.returned (.bool true)/\Dn g w w' { m with sh:=true }:=by
 have A0:=Still.alloc w (.cells #[.int .i64 v,.int .i64 a,.int .i64 b,.int .i64 c] 58)
 have p0:=h.still A0
 have o0:=newO_orb w v a b c
 have HF:=hid (Still.to (F:=fun k=>k=g) A0)
 clear A0
 obtain ⟨c0,c1,c2,c3,c4,c5,c6,c7,c8,c9,c10,c11,c12,cf⟩:=p0.cells
 obtain ⟨d0,d1,d2,d3,df⟩:=o0.cells
 go_enter Tryz.func187,Tryz.ntmps187
 go_wp2_with fail
 go_ret
 exact ⟨rfl,p0.sh _,HF.out.setCell _ _ (.inl rfl)⟩
theorem wshield2 (g:Nat) (m:Mv) (v a b c:Int) (ha:(a == 0)=false) (he:(m.en == 0)=true) (w:World) (h:Wb w g m):Calls Tryz.prog 187 #[.pointer (some ⟨g,0,none⟩),od v a b c] w fun e w'=>e=.returned (.bool false)/\Dn g w w' m:=by
 have A0:=Still.alloc w (.cells #[.int .i64 v,.int .i64 a,.int .i64 b,.int .i64 c] 58)
 have p0:=h.still A0
 have o0:=newO_orb w v a b c
 have HF:=hid (Still.to (F:=fun k=>k=g) A0)
 clear A0
 obtain ⟨c0,c1,c2,c3,c4,c5,c6,c7,c8,c9,c10,c11,c12,cf⟩:=p0.cells
 obtain ⟨d0,d1,d2,d3,df⟩:=o0.cells
 go_enter Tryz.func187,Tryz.ntmps187
 go_wp2_with fail
 go_ret
 exact ⟨rfl,p0,HF.out⟩
theorem wspend_no (g:Nat) (m:Mv) (k:Int) (hk:m.en<k) (w:World) (h:Wb w g m):Calls Tryz.prog 218 #[.pointer (some ⟨g,0,none⟩),.int .i64 k] w fun e w'=>e=.returned (.bool false)/\w'=w:=by
 obtain ⟨c0,c1,c2,c3,c4,c5,c6,c7,c8,c9,c10,c11,c12,cf⟩:=h.cells
 go_enter Tryz.func218,Tryz.ntmps218
 go_wp2_with fail
 go_ret
 exact ⟨rfl,rfl⟩
theorem wspend_yes (g:Nat) (m:Mv) (k:Int) (h0:0<=k) (h1:m.en<=100) (hk:¬ m.en<k) (w:World) (h:Wb w g m):Calls Tryz.prog 218 #[.pointer (some ⟨g,0,none⟩),.int .i64 k] w fun e w'=>e=.returned (.bool true)/\w'=w.setCell ⟨g,8,none⟩ (.int .i64 (m.en - k)):=by
 obtain ⟨c0,c1,c2,c3,c4,c5,c6,c7,c8,c9,c10,c11,c12,cf⟩:=h.cells
 go_enter Tryz.func218,Tryz.ntmps218
 go_wp2_with fail
 go_ret
 exact ⟨rfl,rfl⟩
theorem wfire_cool (g:Nat) (m:Mv) (v a b c:Int) (hc:m.co > 0) (w:World) (h:Wb w g m):Calls Tryz.prog 186 #[.pointer (some ⟨g,0,none⟩),od v a b c] w fun e w'=>e=.returned (.bool false)/\Dn g w w' m:=by
 have A0:=Still.alloc w (.cells #[.int .i64 v,.int .i64 a,.int .i64 b,.int .i64 c] 58)
 have p0:=h.still A0
 have o0:=newO_orb w v a b c
 have HF:=hid (Still.to (F:=fun k=>k=g) A0)
 clear A0
 obtain ⟨c0,c1,c2,c3,c4,c5,c6,c7,c8,c9,c10,c11,c12,cf⟩:=p0.cells
 obtain ⟨d0,d1,d2,d3,df⟩:=o0.cells
 go_enter Tryz.func186,Tryz.ntmps186
 go_wp2_with fail
 go_ret
 exact ⟨rfl,p0,HF.out⟩
theorem wfire_poor (g:Nat) (m:Mv) (v a b c:Int) (h1:0<=a) (h2:a<=3) (hc:¬ m.co > 0) (hp:m.en<10*a) (w:World) (h:Wb w g m):Calls Tryz.prog 186 #[.pointer (some ⟨g,0,none⟩),od v a b c] w fun e w'=>e=.returned (.bool false)/\Dn g w w' m:=by
 have A0:=Still.alloc w (.cells #[.int .i64 v,.int .i64 a,.int .i64 b,.int .i64 c] 58)
 have p0:=h.still A0
 have o0:=newO_orb w v a b c
 have HF:=hid (Still.to (F:=fun k=>k=g) A0)
 clear A0
 obtain ⟨c0,c1,c2,c3,c4,c5,c6,c7,c8,c9,c10,c11,c12,cf⟩:=p0.cells
 obtain ⟨d0,d1,d2,d3,df⟩:=o0.cells
 go_enter Tryz.func186,Tryz.ntmps186
 go_wp2_with fail
 refine (wspend_no g m (10*a) hp _ p0).mono ?_
 rintro e w2 ⟨he,hw⟩
 rw [he,hw]
 clear he hw w2
 go_wp2_with fail
 go_ret
 exact ⟨rfl,p0,HF.out⟩
theorem wfire_yes (g:Nat) (m:Mv) (v a b c:Int) (h1:0<=a) (h2:a<=3) (hc:¬ m.co > 0) (he:m.en<=100) (hp:¬ m.en<10*a) (w:World) (h:Wb w g m):Calls Tryz.prog 186 #[.pointer (some ⟨g,0,none⟩),od v a b c] w fun e w'=>e=.returned (.bool true)/\Dn g w w' { m with en:=m.en - 10*a,co:=4*a }:=by
 have A0:=Still.alloc w (.cells #[.int .i64 v,.int .i64 a,.int .i64 b,.int .i64 c] 58)
 have p0:=h.still A0
 have o0:=newO_orb w v a b c
 have HF:=hid (Still.to (F:=fun k=>k=g) A0)
 clear A0
 obtain ⟨c0,c1,c2,c3,c4,c5,c6,c7,c8,c9,c10,c11,c12,cf⟩:=p0.cells
 obtain ⟨d0,d1,d2,d3,df⟩:=o0.cells
 go_enter Tryz.func186,Tryz.ntmps186
 go_wp2_with fail
 refine (wspend_yes g m (10*a) (by omega) he (by omega) _ p0).mono ?_
 rintro e w2 ⟨he,hw⟩
 rw [he,hw]
 clear he hw w2
 obtain ⟨k0,k1,c2,c3,c4,c5,c6,c7,c8,c9,c10,c11,c12,cf⟩:=(p0.en (m.en - 10*a)).cells
 go_wp2_with fail
 go_ret
 exact ⟨rfl,(p0.en _).co _,(HF.out.setCell _ _ (.inl rfl)).setCell _ _ (.inl rfl)⟩
theorem wdash_poor (g:Nat) (m:Mv) (v a b c:Int) (hp:m.en<20) (w:World) (h:Wb w g m):Calls Tryz.prog 188 #[.pointer (some ⟨g,0,none⟩),od v a b c] w fun e w'=>e=.returned (.bool false)/\Dn g w w' m:=by
 have A0:=Still.alloc w (.cells #[.int .i64 v,.int .i64 a,.int .i64 b,.int .i64 c] 58)
 have p0:=h.still A0
 have o0:=newO_orb w v a b c
 have HF:=hid (Still.to (F:=fun k=>k=g) A0)
 clear A0
 obtain ⟨c0,c1,c2,c3,c4,c5,c6,c7,c8,c9,c10,c11,c12,cf⟩:=p0.cells
 obtain ⟨d0,d1,d2,d3,df⟩:=o0.cells
 go_enter Tryz.func188,Tryz.ntmps188
 go_wp2_with fail
 refine (wspend_no g m 20 hp _ p0).mono ?_
 rintro e w2 ⟨he,hw⟩
 rw [he,hw]
 clear he hw w2
 go_wp2_with fail
 go_ret
 exact ⟨rfl,p0,HF.out⟩
theorem wdash_yes (g:Nat) (m:Mv) (v a b c:Int) (he:m.en<=100) (hp:¬ m.en<20) (x w:World) (ht:Tab x) (hs:Still x w) (hg:x.heap.size<=g) (h:Wb w g m):Calls Tryz.prog 188 #[.pointer (some ⟨g,0,none⟩),od v a b c] w fun e w'=>e=.returned (.bool true)/\Dn g w w' { m with en:=m.en - 20,sx:=mulf (ux (dir a)) 1024,sy:=mulf (uy (dir a)) 1024 }:=by
 have A0:=Still.alloc w (.cells #[.int .i64 v,.int .i64 a,.int .i64 b,.int .i64 c] 58)
 have p0:=h.still A0
 have o0:=newO_orb w v a b c
 have HF:=hid (Still.to (F:=fun k=>k=g) A0)
 have HX:=hid (And.intro ht (And.intro (hs.trans A0) hg))
 have HU:=hid (fun n w ht=>unit_any n w ht)
 clear A0 ht hs hg
 have hne:w.heap.size≠g:=by have:=h.lt; omega
 obtain ⟨c0,c1,c2,c3,c4,c5,c6,c7,c8,c9,c10,c11,c12,cf⟩:=p0.cells
 obtain ⟨d0,d1,d2,d3,df⟩:=o0.cells
 go_enter Tryz.func188,Tryz.ntmps188
 go_wp2_with fail
 refine (wspend_yes g m 20 (by omega) he (by omega) _ p0).mono ?_
 rintro e w2 ⟨he,hw⟩
 rw [he,hw]
 clear he hw w2
 have p1:=p0.en (m.en - 20)
 have HF1:=hid (HF.out.setCell ⟨g,8,none⟩ (.int .i64 (m.en - 20)) (.inl rfl))
 have HT:=hid (HX.out.1.still (HX.out.2.1.setCell ⟨g,8,none⟩ (.int .i64 (m.en - 20)) (.inr HX.out.2.2)))
 clear p0 o0 HF HX
 obtain ⟨k0,k1,k2,k3,k4,k5,k6,k7,k8,k9,k10,k11,k12,kf⟩:=p1.cells
 go_wp2_with fail
 refine (HU.out a _ HT.out).mono ?_
 rintro e w2 ⟨rfl,h2⟩
 have p2:=p1.still h2
 have HF2:=hid (Fr.trans HF1.out (Still.to (F:=fun k=>k=g) h2) fun _ _ e=>e)
 clear h2 p1 HF1 HT HU c0 c1 c2 c3 c4 c5 c6 c7 c8 c9 c10 c11 c12 cf k0 k1 k2 k3 k4 k5 k6 k7 k8 k9 k10 k11 k12 kf d0 d1 d2 d3 df
 go_wp2_with fail
 refine (gscale_any _ _ _ _).mono ?_
 rintro e w3 ⟨rfl,h3⟩
 have p3:=p2.still h3
 have HF3:=hid (Fr.trans HF2.out (Still.to (F:=fun k=>k=g) h3) fun _ _ e=>e)
 clear h3 p2 HF2
 obtain ⟨c0,c1,c2,c3,c4,c5,c6,c7,c8,c9,c10,c11,c12,cf⟩:=p3.cells
 go_wp2_with fail
 go_ret
 exact ⟨rfl,(p3.sx _).sy _,(HF3.out.setCell _ _ (.inl rfl)).setCell _ _ (.inl rfl)⟩
theorem wdrain (g:Nat) (m:Mv) (k:Int) (h1:0<=m.en) (h2:m.en<=100) (h3:0<=k) (h4:k<=100) (w:World) (h:Wb w g m):Calls Tryz.prog 214 #[.pointer (some ⟨g,0,none⟩),.int .i64 k] w fun e w'=>e=.returned (.int .i64 (min k m.en))/\Dn g w w' { m with en:=m.en - min k m.en,sh:=decide (min k m.en<m.en) }:=by
 have HF:=hid (Fr.refl (fun k=>k=g) w)
 obtain ⟨c0,c1,c2,c3,c4,c5,c6,c7,c8,c9,c10,c11,c12,cf⟩:=h.cells
 go_enter Tryz.func214,Tryz.ntmps214
 go_wp2_with fail
 go_ret
 exact ⟨rfl,(h.en _).sh _,(HF.out.setCell _ _ (.inl rfl)).setCell _ _ (.inl rfl)⟩
end Go.Proofs.YtlibdheihodniaaGreatDoor
namespace Go.Proofs.YtlibdheihodniaaGreatDoor
open Go.RowKit Go.Shelf
open Pu Gp Ap Vp Np
set_option maxRecDepth 100000
open Go.ChangeMaps (setBlock)
theorem upd_new8 (w:World) (es:Array MapEntry) (c:Nat) (x:Int) (v:Value) (hf:Instr.findNow (.int .i64) (.int .i64 x) es.toList 0=some none) :
  (Instr.mapUpdate 203 (.map (some w.heap.size)) (.int .i64 x) v).run Tryz.prog (w.alloc (.map es c))=.ok () (w.alloc (.map (es.push ⟨.int .i64 x,v,c⟩) (c+1))):=by
 have hb:(w.alloc (.map es c)).heap[w.heap.size]?=some (.map es c):=heap_alloc_new w _
 have e:=alloc_set w (.map es c) (.map (es.push ⟨.int .i64 x,v,c⟩) (c+1))
 have k:(Instr.mapUpdate 203 (.map (some w.heap.size)) (.int .i64 x) v).run Tryz.prog (w.alloc (.map es c))=.ok () (setBlock (w.alloc (.map es c)) w.heap.size (.map (es.push ⟨.int .i64 x,v,c⟩) (c+1))):=by
  simp [Instr.mapUpdate,run_underlying Tryz.underlying203,MapKept.run_getObj_map hb,chk_key,find_key x _ _ hf,MapKept.run_setObj_map _ hb,Result.andThen,setBlock]
 rw [k,e]
def dsE:Array MapEntry:=#[⟨.int .i64 1,mth 183,0⟩,⟨.int .i64 2,mth 184,1⟩,⟨.int .i64 3,mth 185,2⟩,⟨.int .i64 4,mth 186,3⟩,⟨.int .i64 5,mth 187,4⟩,⟨.int .i64 6,mth 188,5⟩,⟨.int .i64 7,mth 189,6⟩]
def Dsb (w:World) (b:Nat):Prop:=w.heap[b]?=some (.map dsE 7)
theorem deeds_any (w:World):Calls Tryz.prog 141 #[] w fun e w'=>∃ b,e=.returned (.map (some b))/\w.heap.size<=b/\Dsb w' b/\Still w w':=by
 have m0:=run_makeMap (P:=Tryz.prog) 203 w
 have u1:=upd_new8 w #[] 0 1 (mth 183) (by kernel_rfl)
 rw [show (#[]:Array MapEntry).push ⟨.int .i64 1,mth 183,0⟩=(#[⟨.int .i64 1,mth 183,0⟩]:Array MapEntry) from rfl] at u1
 have u2:=upd_new8 w #[⟨.int .i64 1,mth 183,0⟩] 1 2 (mth 184) (by kernel_rfl)
 rw [show #[⟨.int .i64 1,mth 183,0⟩].push ⟨.int .i64 2,mth 184,1⟩=(#[⟨.int .i64 1,mth 183,0⟩,⟨.int .i64 2,mth 184,1⟩]:Array MapEntry) from rfl] at u2
 have u3:=upd_new8 w #[⟨.int .i64 1,mth 183,0⟩,⟨.int .i64 2,mth 184,1⟩] 2 3 (mth 185) (by kernel_rfl)
 rw [show #[⟨.int .i64 1,mth 183,0⟩,⟨.int .i64 2,mth 184,1⟩].push ⟨.int .i64 3,mth 185,2⟩=(#[⟨.int .i64 1,mth 183,0⟩,⟨.int .i64 2,mth 184,1⟩,⟨.int .i64 3,mth 185,2⟩]:Array MapEntry) from rfl] at u3
 have u4:=upd_new8 w #[⟨.int .i64 1,mth 183,0⟩,⟨.int .i64 2,mth 184,1⟩,⟨.int .i64 3,mth 185,2⟩] 3 4 (mth 186) (by kernel_rfl)
 rw [show #[⟨.int .i64 1,mth 183,0⟩,⟨.int .i64 2,mth 184,1⟩,⟨.int .i64 3,mth 185,2⟩].push ⟨.int .i64 4,mth 186,3⟩=(#[⟨.int .i64 1,mth 183,0⟩,⟨.int .i64 2,mth 184,1⟩,⟨.int .i64 3,mth 185,2⟩,⟨.int .i64 4,mth 186,3⟩]:Array MapEntry) from rfl] at u4
 have u5:=upd_new8 w #[⟨.int .i64 1,mth 183,0⟩,⟨.int .i64 2,mth 184,1⟩,⟨.int .i64 3,mth 185,2⟩,⟨.int .i64 4,mth 186,3⟩] 4 5 (mth 187) (by kernel_rfl)
 rw [show #[⟨.int .i64 1,mth 183,0⟩,⟨.int .i64 2,mth 184,1⟩,⟨.int .i64 3,mth 185,2⟩,⟨.int .i64 4,mth 186,3⟩].push ⟨.int .i64 5,mth 187,4⟩=(#[⟨.int .i64 1,mth 183,0⟩,⟨.int .i64 2,mth 184,1⟩,⟨.int .i64 3,mth 185,2⟩,⟨.int .i64 4,mth 186,3⟩,⟨.int .i64 5,mth 187,4⟩]:Array MapEntry) from rfl] at u5
 have u6:=upd_new8 w #[⟨.int .i64 1,mth 183,0⟩,⟨.int .i64 2,mth 184,1⟩,⟨.int .i64 3,mth 185,2⟩,⟨.int .i64 4,mth 186,3⟩,⟨.int .i64 5,mth 187,4⟩] 5 6 (mth 188) (by kernel_rfl)
 rw [show #[⟨.int .i64 1,mth 183,0⟩,⟨.int .i64 2,mth 184,1⟩,⟨.int .i64 3,mth 185,2⟩,⟨.int .i64 4,mth 186,3⟩,⟨.int .i64 5,mth 187,4⟩].push ⟨.int .i64 6,mth 188,5⟩=(#[⟨.int .i64 1,mth 183,0⟩,⟨.int .i64 2,mth 184,1⟩,⟨.int .i64 3,mth 185,2⟩,⟨.int .i64 4,mth 186,3⟩,⟨.int .i64 5,mth 187,4⟩,⟨.int .i64 6,mth 188,5⟩]:Array MapEntry) from rfl] at u6
 have u7:=upd_new8 w #[⟨.int .i64 1,mth 183,0⟩,⟨.int .i64 2,mth 184,1⟩,⟨.int .i64 3,mth 185,2⟩,⟨.int .i64 4,mth 186,3⟩,⟨.int .i64 5,mth 187,4⟩,⟨.int .i64 6,mth 188,5⟩] 6 7 (mth 189) (by kernel_rfl)
 rw [show #[⟨.int .i64 1,mth 183,0⟩,⟨.int .i64 2,mth 184,1⟩,⟨.int .i64 3,mth 185,2⟩,⟨.int .i64 4,mth 186,3⟩,⟨.int .i64 5,mth 187,4⟩,⟨.int .i64 6,mth 188,5⟩].push ⟨.int .i64 7,mth 189,6⟩=(#[⟨.int .i64 1,mth 183,0⟩,⟨.int .i64 2,mth 184,1⟩,⟨.int .i64 3,mth 185,2⟩,⟨.int .i64 4,mth 186,3⟩,⟨.int .i64 5,mth 187,4⟩,⟨.int .i64 6,mth 188,5⟩,⟨.int .i64 7,mth 189,6⟩]:Array MapEntry) from rfl] at u7
 go_enter Tryz.func141,Tryz.ntmps141
 go_wp2_with fail
 go_ret
 exact ⟨_,rfl,Nat.le_refl _,heap_alloc_new w _,Still.alloc w _⟩
theorem look_ds {w:World} {b:Nat} (h:Dsb w b) (v:Int) (k:Nat) (z:Value) (hf:Instr.findNow (.int .i64) (.int .i64 v) dsE.toList 0=some (some (k,z))) :
  (Instr.lookup 203 (.map (some b)) (.int .i64 v) false).run Tryz.prog w=.ok z w:=by
 have h':w.heap[b]?=some (.map dsE 7):=h
 simp [Instr.lookup,run_underlying Tryz.underlying203,MapKept.run_getObj_map h',chk_key,find_key v _ _ hf,Result.andThen]
def dnM (m:Mv) (v a b:Int):Mv:=if doneA m v a then deed m v a b else m
structure Mth (x:World) (g:Nat) (m:Mv) (v a b c:Int) (f:Nat):Prop where
 look:∀ w bl,Dsb w bl->(Instr.lookup 203 (.map (some bl)) (.int .i64 v) false).run Tryz.prog w=.ok (mth f) w
 enter:∀ args w,(callFunc f args).run Tryz.prog w=.ok (.enter f args) w
 does:∀ w,Still x w->Wb w g m->Calls Tryz.prog f #[.pointer (some ⟨g,0,none⟩),od v a b c] w fun e w'=>e=.returned (.bool (doneA m v a))/\Dn g w w' (dnM m v a b)
theorem okO_in {v a b c:Int} (h:chkO v a b c=0):isV v=true/\okO v a b c=true:=by
 unfold chkO at h
 cases hv:isV v with
 | false=>rw [hv] at h; simp at h
 | true =>
  cases ho:okO v a b c with
  | false=>rw [hv,ho] at h; simp at h
  | true=>exact ⟨rfl,rfl⟩
theorem meth8g (x:World) (m:Mv) (v a b c:Int) (ht:Tab x) (h0:m.ou=0) (he0:0<=m.en) (he:m.en<=100) (hc:0<=m.co) (ho:chkO v a b c=0):∃ f,∀ g,x.heap.size<=g->Mth x g m v a b c f:=by
 obtain ⟨hv,hk⟩:=okO_in ho
 have hz:(m.ou == 0)=true:=by simpa using h0
 rcases verbs hv with rfl | rfl | rfl | rfl | rfl | rfl | rfl
 ·refine ⟨183,fun g hx=>⟨fun w bl h=>look_ds h 1 0 _ rfl,enters_of Tryz.func183 (by kernel_rfl) rfl,fun w hs hw=>?_⟩⟩
  have hr:-8<=a/\a<=8/\-8<=b/\b<=8:=by
   unfold okO at hk
   simp [lo,hi,loL,hiL] at hk
   omega
  have e:dnM m 1 a b={ m with px:=32*a,py:=32*b }:=by unfold dnM doneA deed; rw [hz]; rfl
  have d:doneA m 1 a=true:=by unfold doneA; rw [hz]; rfl
  rw [e,d]
  exact wsteer g m 1 a b c hr.1 hr.2.1 hr.2.2.1 hr.2.2.2 w hw
 ·refine ⟨184,fun g hx=>⟨fun w bl h=>look_ds h 2 1 _ rfl,enters_of Tryz.func184 (by kernel_rfl) rfl,fun w hs hw=>?_⟩⟩
  have e:dnM m 2 a b={ m with px:=0,py:=0 }:=by unfold dnM doneA deed; rw [hz]; rfl
  have d:doneA m 2 a=true:=by unfold doneA; rw [hz]; rfl
  rw [e,d]
  exact whalt g m 2 a b c w hw
 ·refine ⟨185,fun g hx=>⟨fun w bl h=>look_ds h 3 2 _ rfl,enters_of Tryz.func185 (by kernel_rfl) rfl,fun w hs hw=>?_⟩⟩
  have e:dnM m 3 a b={ m with fc:=a }:=by unfold dnM doneA deed; rw [hz]; rfl
  have d:doneA m 3 a=true:=by unfold doneA; rw [hz]; rfl
  rw [e,d]
  exact waim g m 3 a b c w hw
 ·refine ⟨186,fun g hx=>⟨fun w bl h=>look_ds h 4 3 _ rfl,enters_of Tryz.func186 (by kernel_rfl) rfl,fun w hs hw=>?_⟩⟩
  have hr:1<=a/\a<=3:=by
   unfold okO at hk
   simp [lo,hi,loL,hiL] at hk
   omega
  have d:doneA m 4 a=((m.co == 0) && decide (10*a<=m.en)):=by unfold doneA; rw [hz]; rfl
  by_cases hq:m.co > 0
  ·have d':doneA m 4 a=false:=by rw [d]; simp; omega
   have e:dnM m 4 a b=m:=by unfold dnM; rw [d']; rfl
   rw [e,d']
   exact wfire_cool g m 4 a b c hq w hw
  ·by_cases hp:m.en<10*a
   ·have d':doneA m 4 a=false:=by rw [d]; simp; omega
    have e:dnM m 4 a b=m:=by unfold dnM; rw [d']; rfl
    rw [e,d']
    exact wfire_poor g m 4 a b c (by omega) hr.2 hq hp w hw
   ·have d':doneA m 4 a=true:=by rw [d]; simp; omega
    have e:dnM m 4 a b={ m with en:=m.en - 10*a,co:=4*a }:=by unfold dnM; rw [d']; rfl
    rw [e,d']
    exact wfire_yes g m 4 a b c (by omega) hr.2 hq he hp w hw
 ·refine ⟨187,fun g hx=>⟨fun w bl h=>look_ds h 5 4 _ rfl,enters_of Tryz.func187 (by kernel_rfl) rfl,fun w hs hw=>?_⟩⟩
  have hr:0<=a/\a<=1:=by
   unfold okO at hk
   simp [lo,hi,loL,hiL] at hk
   omega
  have d:doneA m 5 a=((a == 0) || decide (0<m.en)):=by unfold doneA; rw [hz]; rfl
  by_cases ha:a=0
  ·subst ha
   have d':doneA m 5 0=true:=by rw [d]; rfl
   have e:dnM m 5 0 b={ m with sh:=false }:=by unfold dnM; rw [d']; rfl
   rw [e,d']
   exact wshield0 g m 5 0 b c rfl w hw
  ·obtain rfl:a=1:=by omega
   by_cases hq:m.en=0
   ·have d':doneA m 5 1=false:=by rw [d,hq]; rfl
    have e:dnM m 5 1 b=m:=by unfold dnM; rw [d']; rfl
    rw [e,d']
    exact wshield2 g m 5 1 b c rfl (by simpa using hq) w hw
   ·have d':doneA m 5 1=true:=by rw [d]; simp; omega
    have e:dnM m 5 1 b={ m with sh:=true }:=by unfold dnM; rw [d']; rfl
    rw [e,d']
    exact wshield1 g m 5 1 b c rfl (by simpa using hq) w hw
 ·refine ⟨188,fun g hx=>⟨fun w bl h=>look_ds h 6 5 _ rfl,enters_of Tryz.func188 (by kernel_rfl) rfl,fun w hs hw=>?_⟩⟩
  have d:doneA m 6 a=decide (20<=m.en):=by unfold doneA; rw [hz]; rfl
  by_cases hp:m.en<20
  ·have d':doneA m 6 a=false:=by rw [d]; simp; omega
   have e:dnM m 6 a b=m:=by unfold dnM; rw [d']; rfl
   rw [e,d']
   exact wdash_poor g m 6 a b c hp w hw
  ·have d':doneA m 6 a=true:=by rw [d]; simp; omega
   have e:dnM m 6 a b={ m with en:=m.en - 20,sx:=mulf (ux (dir a)) 1024,sy:=mulf (uy (dir a)) 1024 }:=by unfold dnM; rw [d']; rfl
   rw [e,d']
   exact wdash_yes g m 6 a b c he hp x w ht hs hx hw
 ·refine ⟨189,fun g hx=>⟨fun w bl h=>look_ds h 7 6 _ rfl,enters_of Tryz.func189 (by kernel_rfl) rfl,fun w hs hw=>?_⟩⟩
  have e:dnM m 7 a b={ m with sd:=a }:=by unfold dnM doneA deed; rw [hz]; rfl
  have d:doneA m 7 a=true:=by unfold doneA; rw [hz]; rfl
  rw [e,d]
  exact wsay g m 7 a b c w hw
end Go.Proofs.YtlibdheihodniaaGreatDoor
