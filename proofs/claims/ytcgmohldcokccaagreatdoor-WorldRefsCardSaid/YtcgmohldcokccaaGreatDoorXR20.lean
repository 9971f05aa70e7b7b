import Derived.Test.YtcgmohldcokccaaGreatDoorXR14
import Derived.Deep.DrawnRows
set_option linter.unusedVariables false
set_option maxRecDepth 100000
namespace Go.Proofs.YtcgmohldcokccaaGreatDoor
open Go.RowKit
open Pu Gp Ap Vp Np
open Go.ChangeMaps (setBlock)
def noK(x:Int):List MapEntry->Bool
 | []=>true
 | ⟨.int .i64 y,_,_⟩ :: l=>y != x && noK x l
 | _ :: _=>false
theorem FK{x:Int}:∀{l:List MapEntry} (i:Nat),noK x l=true->Instr.findNow (.int .i64) (.int .i64 x) l i=some none
 | [],_,_=>rfl
 | ⟨k,v,c⟩ :: l,i,h=>by
  unfold noK at h;split at h
  ·rename_i e;cases e
  ·rename_i y _ _ l' e;cases e;simp only[Bool.and_eq_true,bne_iff_ne]at h;have e:(x == y)=false:=by simpa using fun h'=>h.1 h'.symm
   unfold Instr.findNow Instr.sameNow;simp only[if_true,e];exact FK _ h.2
  ·cases h
theorem Q6(x:Int):noK x []=true:=by simp only[noK]
theorem Q7(x y:Int)(v:Value)(c:Nat)(l:List MapEntry):noK x (⟨.int .i64 y,v,c⟩ :: l)=(y != x && noK x l):=by simp only[noK]
theorem Kn(w:World)(g:Nat)(l:List MapEntry)(c:Nat)(x:Int)(v:Value)(hg:g=w.heap.size)(hf:noK x l=true) :
  (Instr.mapUpdate 249 (.map (some g)) (.int .i64 x) v).run Tryz.prog (w.alloc (.map l.toArray c))=.ok () (w.alloc (.map (l ++ [(⟨.int .i64 x,v,c⟩:MapEntry)]).toArray (c+1))):=by
 subst hg;have hb:(w.alloc (.map l.toArray c)).heap[w.heap.size]?=some (.map l.toArray c):=heap_alloc_new w _;have k:(Instr.mapUpdate 249 (.map (some w.heap.size)) (.int .i64 x) v).run Tryz.prog (w.alloc (.map l.toArray c))=.ok () (setBlock (w.alloc (.map l.toArray c)) w.heap.size (.map (l ++ [(⟨.int .i64 x,v,c⟩:MapEntry)]).toArray (c+1))):=by
  simp[Instr.mapUpdate,run_underlying Tryz.underlying249,MapKept.run_getObj_map hb,JW,JX x _ _ (FK 0 hf),MapKept.run_setObj_map _ hb,Result.andThen,setBlock]
 rw[k,Fi]
theorem Q8(w:World)(g:Nat)(l:List MapEntry)(c:Nat)(x:Int)(v:Value)(hg:g=w.heap.size)(hf:noK x l=true) :
  (Instr.mapUpdate 249 (.map (some g)) (.int .i64 x) v).run Tryz.prog (w.alloc (.map l.toArray c)).drew=.ok () (w.alloc (.map (l ++ [(⟨.int .i64 x,v,c⟩:MapEntry)]).toArray (c+1))).drew:=Kn w.drew g l c x v hg hf
def lkK(x:Int):List MapEntry->Option Value
 | []=>none
 | ⟨.int .i64 y,v,_⟩ :: l=>if y=x then some v else lkK x l
 | _ :: _=>none
theorem FL{x:Int}{z:Value}:∀{l:List MapEntry} (i:Nat),lkK x l=some z->∃j,Instr.findNow (.int .i64) (.int .i64 x) l i=some (some (j,z))
 | [],_,h=>by cases h
 | ⟨k,v,c⟩ :: l,i,h=>by
  unfold lkK at h;split at h
  ·rename_i e;cases e
  ·rename_i y _ _ l' e;cases e;by_cases hy:y=x
   ·subst hy;rw[if_pos rfl]at h;cases h;exact⟨i,by unfold Instr.findNow Instr.sameNow;simp⟩
   ·rw[if_neg hy]at h;obtain⟨j,e⟩:=FL (i+1) h;have e':(x == y)=false:=by simpa using fun h'=>hy h'.symm
    exact⟨j,by unfold Instr.findNow Instr.sameNow;simp only[if_true,e'];exact e⟩
  ·cases h
theorem Q9(x y:Int)(v:Value)(c:Nat)(l:List MapEntry):lkK x (⟨.int .i64 y,v,c⟩ :: l)=if y=x then some v else lkK x l:=by simp only[lkK]
theorem P6(w:World)(g:Nat)(l:List MapEntry)(c:Nat)(x:Int)(z:Value)(h:w.heap[g]?=some (.map l.toArray c))(hf:lkK x l=some z) :
  (Instr.lookup 249 (.map (some g)) (.int .i64 x) false).run Tryz.prog w=.ok z w:=by
 obtain⟨j,e⟩:=FL 0 hf;simp[Instr.lookup,run_underlying Tryz.underlying249,MapKept.run_getObj_map h,JW,JX x _ _ e,Result.andThen]
theorem QA(w:World)(g:Nat)(l:List MapEntry)(c:Nat)(x:Int)(h:g=w.heap.size)(hf:(lkK x l).isSome=true) :
  (Instr.lookup 249 (.map (some g)) (.int .i64 x) false).run Tryz.prog (w.alloc (.map l.toArray c)).drew=.ok ((lkK x l).getD undef) (w.alloc (.map l.toArray c)).drew:=P6 _ g l c x _ (h ▸ heap_alloc_new w _) (by cases e:lkK x l<;>simp_all)
attribute [local go_sem] zr Y0 Kn Q8 Q6 Q7 QA Q9 XU Xh Jt Ju
attribute [local go_sem ↓] Go.wp_at_zero Go.wp_at_succ
abbrev AG(m:Mv)(v a b c:Int)(w:World):Prop:=Hid (∀u,Ya 95 #[mv m] u (.int .i64 0))->Hid (∀u,Ya 101 #[od v a b c] u (.int .i64 0))->Hid (Yw m=true)->Hid (YB v a b c=0)->(m.ou == 0)=true->Ya 170 #[mv m,od v a b c] w (.tuple #[mv (YR m v a b c),.bool (Zt m v a b c),.int .i64 (YU m v a b c)])
theorem Xw{p:Prop}(h:p:=by
  unfold AG Ya;intro HC HO HM HX h0;have m0:=run_makeMap (P:=Tryz.prog) 249;go_in
  go_wp2_with (first|(go_at_call 95;refine zc (HC.o _) ?_;intro J n)|(go_at_call 101;refine zc (HO.o _) ?_;intro J1 n1)|go_in);go_region_with (first|(go_at_call 282;refine zc (HU.o _ zst) ?_;intro J2 n2)|(go_at_call 284;refine zc (WS _ _ _ _) ?_;intro J3 n3)|go_in)
  all_goals go_wp2
  all_goals
   refine bodyPost_ret (Y9 zbk rfl rfl) rfl ⟨?_,zst⟩;go_tidy
   clear HC HO;simp[YR,Zt,YU,HM.o,HX.o,VY,JC,dir, *];try ((repeat' split)<;>(try (exfalso;omega))<;>simp_all<;>omega)):p:=h
end Go.Proofs.YtcgmohldcokccaaGreatDoor
