import Derived.Test.YtcgmohldcokccaaGreatDoorXR03
import Derived.ProofKit
set_option linter.unusedVariables false
set_option maxRecDepth 100000
namespace Go.Proofs.YtcgmohldcokccaaGreatDoor
open Go.RowKit
open Vp
open Go.ChangeMaps (setBlock)
theorem RZ(h:Array Obj)(o o':Obj):(h.push o).setIfInBounds h.size o'=h.push o':=by
 apply Array.ext_getElem?;intro i;rw[Array.getElem?_setIfInBounds];by_cases e:h.size=i
 ·subst e;simp
 ·rw[if_neg e,Array.getElem?_push,Array.getElem?_push,if_neg (fun k=>e k.symm),if_neg (fun k=>e k.symm)]
theorem Fi(w:World)(o o':Obj):setBlock (w.alloc o) w.heap.size o'=w.alloc o':=by
 show({ w.alloc o with heap:=(w.heap.push o).setIfInBounds w.heap.size o' }:World)={ w with heap:=w.heap.push o' };rw[RZ];rfl
theorem JW(b:Bool)(x:Int)(w:World):(Instr.checkKey b 10000 3 (.int .i64 x)).run Tryz.prog w=.ok () w:=by
 show(Instr.checkKey b (9999+1) 3 (.int .i64 x)).run Tryz.prog w=.ok () w;rw[Instr.checkKey];simp[run_underlying Tryz.underlying3,Result.andThen]
theorem JX(x:Int)(es:List MapEntry)(r:Option (Nat × Value))(h:Instr.findNow (.int .i64) (.int .i64 x) es 0=some r)(w:World):(Instr.findKey 3 (.int .i64 x) es).run Tryz.prog w=.ok r w:=by
 simp[Instr.findKey,run_underlying Tryz.underlying3,h,Result.andThen]
theorem Un(w:World)(es:Array MapEntry)(c:Nat)(x:Int)(v:Value)(hf:Instr.findNow (.int .i64) (.int .i64 x) es.toList 0=some none) :
  (Instr.mapUpdate 244 (.map (some w.heap.size)) (.int .i64 x) v).run Tryz.prog (w.alloc (.map es c))=.ok () (w.alloc (.map (es.push ⟨.int .i64 x,v,c⟩) (c+1))):=by
 have hb:(w.alloc (.map es c)).heap[w.heap.size]?=some (.map es c):=heap_alloc_new w _;have e:=Fi w (.map es c) (.map (es.push ⟨.int .i64 x,v,c⟩) (c+1));have k:(Instr.mapUpdate 244 (.map (some w.heap.size)) (.int .i64 x) v).run Tryz.prog (w.alloc (.map es c))=.ok () (setBlock (w.alloc (.map es c)) w.heap.size (.map (es.push ⟨.int .i64 x,v,c⟩) (c+1))):=by
  simp[Instr.mapUpdate,run_underlying Tryz.underlying244,MapKept.run_getObj_map hb,JW,JX x _ _ hf,MapKept.run_setObj_map _ hb,Result.andThen,setBlock]
 rw[k,e]
abbrev mth(f:Nat):Value:=.func (.func f) #[] #[]
def acE:Array MapEntry:=#[⟨.int .i64 1,mth 268,0⟩,⟨.int .i64 2,mth 269,1⟩,⟨.int .i64 3,mth 270,2⟩,⟨.int .i64 4,mth 271,3⟩,⟨.int .i64 5,mth 272,4⟩,⟨.int .i64 6,mth 273,5⟩,⟨.int .i64 7,mth 274,6⟩]
def Acb(w:World)(b:Nat):Prop:=w.heap[b]?=some (.map acE 7)
theorem Fj(w:World):Calls Tryz.prog 227 #[] w fun e w'=>∃b,e=.returned (.map (some b))/\w.heap.size<=b/\Acb w' b/\Yc w w':=by
 have m0:=run_makeMap (P:=Tryz.prog) 244 w;have u1:=Un w #[] 0 1 (mth 268) (by kernel_rfl);rw[show(#[]:Array MapEntry).push ⟨.int .i64 1,mth 268,0⟩=(#[⟨.int .i64 1,mth 268,0⟩]:Array MapEntry)from rfl]at u1;have u2:=Un w #[⟨.int .i64 1,mth 268,0⟩] 1 2 (mth 269) (by kernel_rfl);rw[show #[⟨.int .i64 1,mth 268,0⟩].push ⟨.int .i64 2,mth 269,1⟩=(#[⟨.int .i64 1,mth 268,0⟩,⟨.int .i64 2,mth 269,1⟩]:Array MapEntry)from rfl]at u2;have u3:=Un w #[⟨.int .i64 1,mth 268,0⟩,⟨.int .i64 2,mth 269,1⟩] 2 3 (mth 270) (by kernel_rfl);rw[show #[⟨.int .i64 1,mth 268,0⟩,⟨.int .i64 2,mth 269,1⟩].push ⟨.int .i64 3,mth 270,2⟩=(#[⟨.int .i64 1,mth 268,0⟩,⟨.int .i64 2,mth 269,1⟩,⟨.int .i64 3,mth 270,2⟩]:Array MapEntry)from rfl]at u3;have u4:=Un w #[⟨.int .i64 1,mth 268,0⟩,⟨.int .i64 2,mth 269,1⟩,⟨.int .i64 3,mth 270,2⟩] 3 4 (mth 271) (by kernel_rfl);rw[show #[⟨.int .i64 1,mth 268,0⟩,⟨.int .i64 2,mth 269,1⟩,⟨.int .i64 3,mth 270,2⟩].push ⟨.int .i64 4,mth 271,3⟩=(#[⟨.int .i64 1,mth 268,0⟩,⟨.int .i64 2,mth 269,1⟩,⟨.int .i64 3,mth 270,2⟩,⟨.int .i64 4,mth 271,3⟩]:Array MapEntry)from rfl]at u4;have u5:=Un w #[⟨.int .i64 1,mth 268,0⟩,⟨.int .i64 2,mth 269,1⟩,⟨.int .i64 3,mth 270,2⟩,⟨.int .i64 4,mth 271,3⟩] 4 5 (mth 272) (by kernel_rfl);rw[show #[⟨.int .i64 1,mth 268,0⟩,⟨.int .i64 2,mth 269,1⟩,⟨.int .i64 3,mth 270,2⟩,⟨.int .i64 4,mth 271,3⟩].push ⟨.int .i64 5,mth 272,4⟩=(#[⟨.int .i64 1,mth 268,0⟩,⟨.int .i64 2,mth 269,1⟩,⟨.int .i64 3,mth 270,2⟩,⟨.int .i64 4,mth 271,3⟩,⟨.int .i64 5,mth 272,4⟩]:Array MapEntry)from rfl]at u5;have u6:=Un w #[⟨.int .i64 1,mth 268,0⟩,⟨.int .i64 2,mth 269,1⟩,⟨.int .i64 3,mth 270,2⟩,⟨.int .i64 4,mth 271,3⟩,⟨.int .i64 5,mth 272,4⟩] 5 6 (mth 273) (by kernel_rfl);rw[show #[⟨.int .i64 1,mth 268,0⟩,⟨.int .i64 2,mth 269,1⟩,⟨.int .i64 3,mth 270,2⟩,⟨.int .i64 4,mth 271,3⟩,⟨.int .i64 5,mth 272,4⟩].push ⟨.int .i64 6,mth 273,5⟩=(#[⟨.int .i64 1,mth 268,0⟩,⟨.int .i64 2,mth 269,1⟩,⟨.int .i64 3,mth 270,2⟩,⟨.int .i64 4,mth 271,3⟩,⟨.int .i64 5,mth 272,4⟩,⟨.int .i64 6,mth 273,5⟩]:Array MapEntry)from rfl]at u6;have u7:=Un w #[⟨.int .i64 1,mth 268,0⟩,⟨.int .i64 2,mth 269,1⟩,⟨.int .i64 3,mth 270,2⟩,⟨.int .i64 4,mth 271,3⟩,⟨.int .i64 5,mth 272,4⟩,⟨.int .i64 6,mth 273,5⟩] 6 7 (mth 274) (by kernel_rfl);rw[show #[⟨.int .i64 1,mth 268,0⟩,⟨.int .i64 2,mth 269,1⟩,⟨.int .i64 3,mth 270,2⟩,⟨.int .i64 4,mth 271,3⟩,⟨.int .i64 5,mth 272,4⟩,⟨.int .i64 6,mth 273,5⟩].push ⟨.int .i64 7,mth 274,6⟩=(#[⟨.int .i64 1,mth 268,0⟩,⟨.int .i64 2,mth 269,1⟩,⟨.int .i64 3,mth 270,2⟩,⟨.int .i64 4,mth 271,3⟩,⟨.int .i64 5,mth 272,4⟩,⟨.int .i64 6,mth 273,5⟩,⟨.int .i64 7,mth 274,6⟩]:Array MapEntry)from rfl]at u7;go_enter Tryz.func227,Tryz.ntmps227;go_wp2_with fail;go_ret;exact⟨_,rfl,Nat.le_refl _,heap_alloc_new w _,sA w _⟩
def Vkb(w:World)(g:Nat)(s:ByteArray)(x:Value):Prop:=w.heap[g]?=some (.cells #[.string s,x] 212 (0,0))
theorem Vkb.sT{w w':World}{g:Nat}{s:ByteArray}{x:Value}(h:Vkb w g s x)(hs:Yc w w'):Vkb w' g s x:=hs.kept_still h
theorem Vkb.cells{w:World}{g:Nat}{s:ByteArray}{x:Value}(h:Vkb w g s x) :
  w.cell? ⟨g,0,none⟩=some (.string s)/\w.cell? ⟨g,1,none⟩=some x/\∀o,w.frozen? ⟨g,o,none⟩=false:=by
 refine⟨?_,?_,fun o=>frozen_of_row w g o _ _ h⟩<;>(rw[cell_of_row _ _ _ _ _ _ h];rfl)
abbrev D4(w:World)(s:ByteArray)(x:Value):World:=w.alloc (.cells #[.string s,x] 212)
theorem JY(w:World)(s:ByteArray)(x:Value):Vkb (D4 w s x) w.heap.size s x:=heap_alloc_new w _
theorem OwO.two{w:World}{g B:Nat}{s t:ByteArray}{x y x' y':Int}(h:w.heap[g]?=some (.cells #[.string s,.int .i64 x,.int .i64 y,.string t,.int .i64 x',.int .i64 y'] 218 (0,0)))(hB:B<=g):OwO w B (.slice (some ⟨g,0,none⟩) 2 2) [(s,x,y),(t,x',y')]:=
 ⟨rfl,.inr ⟨g,2,_,rfl,hB,h,by simp,by simp[maxLen],rfl,rfl⟩⟩
theorem Fm(w:World)(g:Nat)(s:ByteArray)(x:Value)(c0:w.cell? ⟨g,0,none⟩=some (.string s))(c1:w.cell? ⟨g,1,none⟩=some x):(loadVar 212 ⟨g,0,none⟩).run Tryz.prog w=.ok (.agg #[.string s,x]) w:=by
 go_simp
theorem Vkb.res{fn:Func}{p:Tmp}{w:World}{g:Nat}{s:ByteArray}{x:Value}(hb:Vkb w g s x)(h:fn.results=#[.cell p 212])(tmps:Array Value)(hp:tmps.getD p undef=.pointer (some ⟨g,0,none⟩)) :
  (results fn tmps).run Tryz.prog w=.ok (.agg #[.string s,x]) w:=by
 have hp':tmps[p]?.getD undef=.pointer (some ⟨g,0,none⟩):=by simpa using hp
 simp[results,h,hp',asAddr,Fm w g s x hb.cells.1 hb.cells.2.1]
theorem sz(w:World)(o:Obj):(w.alloc o).heap.size=w.heap.size+1:=by simp
theorem Jf(w:World)(s:ByteArray)(x:Value)(b o:Obj):Vkb (((w.alloc b).alloc (.cells #[.string s,x] 212)).alloc o) (w.heap.size+1) s x/\(((w.alloc b).alloc (.cells #[.string s,x] 212)).alloc o).heap[w.heap.size+1+1]?=some o/\Yc w (((w.alloc b).alloc (.cells #[.string s,x] 212)).alloc o):=by
 have h1:=JY (w.alloc b) s x;rw[sz]at h1;have h2:=heap_alloc_new ((w.alloc b).alloc (.cells #[.string s,x] 212)) o;rw[sz,sz]at h2;exact⟨h1.sT (sA _ o),h2,((sA w b).trans (sA _ _)).trans (sA _ o)⟩
theorem Sa(w:World):Calls Tryz.prog 268 #[.agg #[]] w fun e w'=>∃x,e=.returned (.agg #[.string (nmV 1),x])/\OwO w' w.heap.size x (opV 1)/\Yc w w':=by
 go_enter Tryz.func268,Tryz.ntmps268;go_wp2_with fail;obtain⟨h1,h2,h3⟩:=Jf w (nmV 1) (.slice (some ⟨w.heap.size+1+1,0,none⟩) 2 2) (.cells #[] 247) (.cells (YS (opV 1)).toArray 218);exact bodyPost_ret (h1.res rfl _ rfl) rfl ⟨_,rfl,OwO.two h2 (by omega),h3⟩
theorem Sc(w:World):Calls Tryz.prog 269 #[.agg #[]] w fun e w'=>∃x,e=.returned (.agg #[.string (nmV 2),x])/\OwO w' w.heap.size x (opV 2)/\Yc w w':=by
 go_enter Tryz.func269,Tryz.ntmps269;go_wp2_with fail;have h1:=JY (w.alloc (.cells #[] 247)) (nmV 2) (.slice none 0 0);rw[sz]at h1;exact bodyPost_ret (h1.res rfl _ rfl) rfl ⟨_,rfl,OwO.nil _ _,(sA w _).trans (sA _ _)⟩
theorem Sd(w:World):Calls Tryz.prog 270 #[.agg #[]] w fun e w'=>∃x,e=.returned (.agg #[.string (nmV 3),x])/\OwO w' w.heap.size x (opV 3)/\Yc w w':=by
 go_enter Tryz.func270,Tryz.ntmps270;go_wp2_with fail;obtain⟨h1,h2,h3⟩:=Jf w (nmV 3) (.slice (some ⟨w.heap.size+1+1,0,none⟩) 1 1) (.cells #[] 247) (.cells (YS (opV 3)).toArray 218);exact bodyPost_ret (h1.res rfl _ rfl) rfl ⟨_,rfl,OwO.one h2 (by omega),h3⟩
theorem Sf(w:World):Calls Tryz.prog 271 #[.agg #[]] w fun e w'=>∃x,e=.returned (.agg #[.string (nmV 4),x])/\OwO w' w.heap.size x (opV 4)/\Yc w w':=by
 go_enter Tryz.func271,Tryz.ntmps271;go_wp2_with fail;obtain⟨h1,h2,h3⟩:=Jf w (nmV 4) (.slice (some ⟨w.heap.size+1+1,0,none⟩) 1 1) (.cells #[] 247) (.cells (YS (opV 4)).toArray 218);exact bodyPost_ret (h1.res rfl _ rfl) rfl ⟨_,rfl,OwO.one h2 (by omega),h3⟩
theorem Sg(w:World):Calls Tryz.prog 272 #[.agg #[]] w fun e w'=>∃x,e=.returned (.agg #[.string (nmV 5),x])/\OwO w' w.heap.size x (opV 5)/\Yc w w':=by
 go_enter Tryz.func272,Tryz.ntmps272;go_wp2_with fail;obtain⟨h1,h2,h3⟩:=Jf w (nmV 5) (.slice (some ⟨w.heap.size+1+1,0,none⟩) 1 1) (.cells #[] 247) (.cells (YS (opV 5)).toArray 218);exact bodyPost_ret (h1.res rfl _ rfl) rfl ⟨_,rfl,OwO.one h2 (by omega),h3⟩
theorem Si(w:World):Calls Tryz.prog 273 #[.agg #[]] w fun e w'=>∃x,e=.returned (.agg #[.string (nmV 6),x])/\OwO w' w.heap.size x (opV 6)/\Yc w w':=by
 go_enter Tryz.func273,Tryz.ntmps273;go_wp2_with fail;obtain⟨h1,h2,h3⟩:=Jf w (nmV 6) (.slice (some ⟨w.heap.size+1+1,0,none⟩) 1 1) (.cells #[] 247) (.cells (YS (opV 6)).toArray 218);exact bodyPost_ret (h1.res rfl _ rfl) rfl ⟨_,rfl,OwO.one h2 (by omega),h3⟩
theorem Sj(w:World):Calls Tryz.prog 274 #[.agg #[]] w fun e w'=>∃x,e=.returned (.agg #[.string (nmV 7),x])/\OwO w' w.heap.size x (opV 7)/\Yc w w':=by
 go_enter Tryz.func274,Tryz.ntmps274;go_wp2_with fail;obtain⟨h1,h2,h3⟩:=Jf w (nmV 7) (.slice (some ⟨w.heap.size+1+1,0,none⟩) 1 1) (.cells #[] 247) (.cells (YS (opV 7)).toArray 218);exact bodyPost_ret (h1.res rfl _ rfl) rfl ⟨_,rfl,OwO.one h2 (by omega),h3⟩
end Go.Proofs.YtcgmohldcokccaaGreatDoor
