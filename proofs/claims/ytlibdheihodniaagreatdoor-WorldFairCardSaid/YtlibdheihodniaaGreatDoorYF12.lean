/- Parts of the proof, laid end to end. -/
import Derived.Test.YtlibdheihodniaaGreatDoorYF02
import Derived.ProofKit
namespace Go.Proofs.YtlibdheihodniaaGreatDoor
open Go.RowKit
open Vp
set_option maxRecDepth 100000
open Go.ChangeMaps (setBlock)
theorem push_set (h:Array Obj) (o o':Obj):(h.push o).setIfInBounds h.size o'=h.push o':=by
 apply Array.ext_getElem?
 intro i
 rw [Array.getElem?_setIfInBounds]
 by_cases e:h.size=i
 ·subst e
  simp
 ·rw [if_neg e,Array.getElem?_push,Array.getElem?_push,if_neg (fun k=>e k.symm),if_neg (fun k=>e k.symm)]
theorem alloc_set (w:World) (o o':Obj):setBlock (w.alloc o) w.heap.size o'=w.alloc o':=by
 show ({ w.alloc o with heap:=(w.heap.push o).setIfInBounds w.heap.size o' }:World)={ w with heap:=w.heap.push o' }
 rw [push_set]
 rfl
theorem chk_key (b:Bool) (x:Int) (w:World):(Instr.checkKey b 10000 3 (.int .i64 x)).run Tryz.prog w=.ok () w:=by
 show (Instr.checkKey b (9999+1) 3 (.int .i64 x)).run Tryz.prog w=.ok () w
 rw [Instr.checkKey]
 simp [run_underlying Tryz.underlying3,Result.andThen]
theorem find_key (x:Int) (es:List MapEntry) (r:Option (Nat × Value)) (h:Instr.findNow (.int .i64) (.int .i64 x) es 0=some r) (w:World):(Instr.findKey 3 (.int .i64 x) es).run Tryz.prog w=.ok r w:=by
 simp [Instr.findKey,run_underlying Tryz.underlying3,h,Result.andThen]
theorem upd_new (w:World) (es:Array MapEntry) (c:Nat) (x:Int) (v:Value) (hf:Instr.findNow (.int .i64) (.int .i64 x) es.toList 0=some none) :
  (Instr.mapUpdate 198 (.map (some w.heap.size)) (.int .i64 x) v).run Tryz.prog (w.alloc (.map es c))=.ok () (w.alloc (.map (es.push ⟨.int .i64 x,v,c⟩) (c+1))):=by
 have hb:(w.alloc (.map es c)).heap[w.heap.size]?=some (.map es c):=heap_alloc_new w _
 have e:=alloc_set w (.map es c) (.map (es.push ⟨.int .i64 x,v,c⟩) (c+1))
 have k:(Instr.mapUpdate 198 (.map (some w.heap.size)) (.int .i64 x) v).run Tryz.prog (w.alloc (.map es c))=.ok () (setBlock (w.alloc (.map es c)) w.heap.size (.map (es.push ⟨.int .i64 x,v,c⟩) (c+1))):=by
  simp [Instr.mapUpdate,run_underlying Tryz.underlying198,MapKept.run_getObj_map hb,chk_key,find_key x _ _ hf,MapKept.run_setObj_map _ hb,Result.andThen,setBlock]
 rw [k,e]
abbrev mth (f:Nat):Value:=.func (.func f) #[] #[]
def acE:Array MapEntry:=#[⟨.int .i64 1,mth 176,0⟩,⟨.int .i64 2,mth 177,1⟩,⟨.int .i64 3,mth 178,2⟩,⟨.int .i64 4,mth 179,3⟩,⟨.int .i64 5,mth 180,4⟩,⟨.int .i64 6,mth 181,5⟩,⟨.int .i64 7,mth 182,6⟩]
def Acb (w:World) (b:Nat):Prop:=w.heap[b]?=some (.map acE 7)
theorem acc_any (w:World):Calls Tryz.prog 140 #[] w fun e w'=>∃ b,e=.returned (.map (some b))/\w.heap.size<=b/\Acb w' b/\Still w w':=by
 have m0:=run_makeMap (P:=Tryz.prog) 198 w
 have u1:=upd_new w #[] 0 1 (mth 176) (by kernel_rfl)
 rw [show (#[]:Array MapEntry).push ⟨.int .i64 1,mth 176,0⟩=(#[⟨.int .i64 1,mth 176,0⟩]:Array MapEntry) from rfl] at u1
 have u2:=upd_new w #[⟨.int .i64 1,mth 176,0⟩] 1 2 (mth 177) (by kernel_rfl)
 rw [show #[⟨.int .i64 1,mth 176,0⟩].push ⟨.int .i64 2,mth 177,1⟩=(#[⟨.int .i64 1,mth 176,0⟩,⟨.int .i64 2,mth 177,1⟩]:Array MapEntry) from rfl] at u2
 have u3:=upd_new w #[⟨.int .i64 1,mth 176,0⟩,⟨.int .i64 2,mth 177,1⟩] 2 3 (mth 178) (by kernel_rfl)
 rw [show #[⟨.int .i64 1,mth 176,0⟩,⟨.int .i64 2,mth 177,1⟩].push ⟨.int .i64 3,mth 178,2⟩=(#[⟨.int .i64 1,mth 176,0⟩,⟨.int .i64 2,mth 177,1⟩,⟨.int .i64 3,mth 178,2⟩]:Array MapEntry) from rfl] at u3
 have u4:=upd_new w #[⟨.int .i64 1,mth 176,0⟩,⟨.int .i64 2,mth 177,1⟩,⟨.int .i64 3,mth 178,2⟩] 3 4 (mth 179) (by kernel_rfl)
 rw [show #[⟨.int .i64 1,mth 176,0⟩,⟨.int .i64 2,mth 177,1⟩,⟨.int .i64 3,mth 178,2⟩].push ⟨.int .i64 4,mth 179,3⟩=(#[⟨.int .i64 1,mth 176,0⟩,⟨.int .i64 2,mth 177,1⟩,⟨.int .i64 3,mth 178,2⟩,⟨.int .i64 4,mth 179,3⟩]:Array MapEntry) from rfl] at u4
 have u5:=upd_new w #[⟨.int .i64 1,mth 176,0⟩,⟨.int .i64 2,mth 177,1⟩,⟨.int .i64 3,mth 178,2⟩,⟨.int .i64 4,mth 179,3⟩] 4 5 (mth 180) (by kernel_rfl)
 rw [show #[⟨.int .i64 1,mth 176,0⟩,⟨.int .i64 2,mth 177,1⟩,⟨.int .i64 3,mth 178,2⟩,⟨.int .i64 4,mth 179,3⟩].push ⟨.int .i64 5,mth 180,4⟩=(#[⟨.int .i64 1,mth 176,0⟩,⟨.int .i64 2,mth 177,1⟩,⟨.int .i64 3,mth 178,2⟩,⟨.int .i64 4,mth 179,3⟩,⟨.int .i64 5,mth 180,4⟩]:Array MapEntry) from rfl] at u5
 have u6:=upd_new w #[⟨.int .i64 1,mth 176,0⟩,⟨.int .i64 2,mth 177,1⟩,⟨.int .i64 3,mth 178,2⟩,⟨.int .i64 4,mth 179,3⟩,⟨.int .i64 5,mth 180,4⟩] 5 6 (mth 181) (by kernel_rfl)
 rw [show #[⟨.int .i64 1,mth 176,0⟩,⟨.int .i64 2,mth 177,1⟩,⟨.int .i64 3,mth 178,2⟩,⟨.int .i64 4,mth 179,3⟩,⟨.int .i64 5,mth 180,4⟩].push ⟨.int .i64 6,mth 181,5⟩=(#[⟨.int .i64 1,mth 176,0⟩,⟨.int .i64 2,mth 177,1⟩,⟨.int .i64 3,mth 178,2⟩,⟨.int .i64 4,mth 179,3⟩,⟨.int .i64 5,mth 180,4⟩,⟨.int .i64 6,mth 181,5⟩]:Array MapEntry) from rfl] at u6
 have u7:=upd_new w #[⟨.int .i64 1,mth 176,0⟩,⟨.int .i64 2,mth 177,1⟩,⟨.int .i64 3,mth 178,2⟩,⟨.int .i64 4,mth 179,3⟩,⟨.int .i64 5,mth 180,4⟩,⟨.int .i64 6,mth 181,5⟩] 6 7 (mth 182) (by kernel_rfl)
 rw [show #[⟨.int .i64 1,mth 176,0⟩,⟨.int .i64 2,mth 177,1⟩,⟨.int .i64 3,mth 178,2⟩,⟨.int .i64 4,mth 179,3⟩,⟨.int .i64 5,mth 180,4⟩,⟨.int .i64 6,mth 181,5⟩].push ⟨.int .i64 7,mth 182,6⟩=(#[⟨.int .i64 1,mth 176,0⟩,⟨.int .i64 2,mth 177,1⟩,⟨.int .i64 3,mth 178,2⟩,⟨.int .i64 4,mth 179,3⟩,⟨.int .i64 5,mth 180,4⟩,⟨.int .i64 6,mth 181,5⟩,⟨.int .i64 7,mth 182,6⟩]:Array MapEntry) from rfl] at u7
 go_enter Tryz.func140,Tryz.ntmps140
 go_wp2_with fail
 go_ret
 exact ⟨_,rfl,Nat.le_refl _,heap_alloc_new w _,Still.alloc w _⟩
def Vkb (w:World) (g:Nat) (s:ByteArray) (x:Value):Prop:=w.heap[g]?=some (.cells #[.string s,x] 150 (0,0))
theorem Vkb.still {w w':World} {g:Nat} {s:ByteArray} {x:Value} (h:Vkb w g s x) (hs:Still w w'):Vkb w' g s x:=hs.kept_still h
theorem Vkb.cells {w:World} {g:Nat} {s:ByteArray} {x:Value} (h:Vkb w g s x) :
  w.cell? ⟨g,0,none⟩=some (.string s)/\w.cell? ⟨g,1,none⟩=some x/\∀ o,w.frozen? ⟨g,o,none⟩=false:=by
 refine ⟨?_, ?_,fun o=>frozen_of_row w g o _ _ h⟩ <;> (rw [cell_of_row _ _ _ _ _ _ h]; rfl)
abbrev newVk (w:World) (s:ByteArray) (x:Value):World:=w.alloc (.cells #[.string s,x] 150)
theorem newVk_vkb (w:World) (s:ByteArray) (x:Value):Vkb (newVk w s x) w.heap.size s x:=heap_alloc_new w _
theorem OwO.two {w:World} {g B:Nat} {s t:ByteArray} {x y x' y':Int} (h:w.heap[g]?=some (.cells #[.string s,.int .i64 x,.int .i64 y,.string t,.int .i64 x',.int .i64 y'] 156 (0,0))) (hB:B<=g):OwO w B (.slice (some ⟨g,0,none⟩) 2 2) [(s,x,y),(t,x',y')] :=
 ⟨rfl,.inr ⟨g,2,_,rfl,hB,h,by simp,by simp [maxLen],rfl,rfl⟩⟩
theorem load_kind (w:World) (g:Nat) (s:ByteArray) (x:Value) (c0:w.cell? ⟨g,0,none⟩=some (.string s)) (c1:w.cell? ⟨g,1,none⟩=some x):(loadVar 150 ⟨g,0,none⟩).run Tryz.prog w=.ok (.agg #[.string s,x]) w:=by
 go_simp
theorem Vkb.res {fn:Func} {p:Tmp} {w:World} {g:Nat} {s:ByteArray} {x:Value} (hb:Vkb w g s x) (h:fn.results=#[.cell p 150]) (tmps:Array Value) (hp:tmps.getD p undef=.pointer (some ⟨g,0,none⟩)) :
  (results fn tmps).run Tryz.prog w=.ok (.agg #[.string s,x]) w:=by
 have hp':tmps[p]?.getD undef=.pointer (some ⟨g,0,none⟩):=by simpa using hp
 simp [results,h,hp',asAddr,load_kind w g s x hb.cells.1 hb.cells.2.1]
theorem sz (w:World) (o:Obj):(w.alloc o).heap.size=w.heap.size+1:=by simp
theorem vkThree (w:World) (s:ByteArray) (x:Value) (b o:Obj):Vkb (((w.alloc b).alloc (.cells #[.string s,x] 150)).alloc o) (w.heap.size+1) s x/\(((w.alloc b).alloc (.cells #[.string s,x] 150)).alloc o).heap[w.heap.size+1+1]?=some o/\Still w (((w.alloc b).alloc (.cells #[.string s,x] 150)).alloc o):=by
 have h1:=newVk_vkb (w.alloc b) s x
 rw [sz] at h1
 have h2:=heap_alloc_new ((w.alloc b).alloc (.cells #[.string s,x] 150)) o
 rw [sz,sz] at h2
 exact ⟨h1.still (Still.alloc _ o),h2,((Still.alloc w b).trans (Still.alloc _ _)).trans (Still.alloc _ o)⟩
theorem steer_any (w:World):Calls Tryz.prog 176 #[.agg #[]] w fun e w'=>∃ x,e=.returned (.agg #[.string (nmV 1),x])/\OwO w' w.heap.size x (opV 1)/\Still w w':=by
 go_enter Tryz.func176,Tryz.ntmps176
 go_wp2_with fail
 obtain ⟨h1,h2,h3⟩:=vkThree w (nmV 1) (.slice (some ⟨w.heap.size+1+1,0,none⟩) 2 2) (.cells #[] 201) (.cells (opsOf (opV 1)).toArray 156)
 exact bodyPost_ret (h1.res rfl _ rfl) rfl ⟨_,rfl,OwO.two h2 (by omega),h3⟩
theorem halt_any (w:World):Calls Tryz.prog 177 #[.agg #[]] w fun e w'=>∃ x,e=.returned (.agg #[.string (nmV 2),x])/\OwO w' w.heap.size x (opV 2)/\Still w w':=by
 go_enter Tryz.func177,Tryz.ntmps177
 go_wp2_with fail
 have h1:=newVk_vkb (w.alloc (.cells #[] 201)) (nmV 2) (.slice none 0 0)
 rw [sz] at h1
 exact bodyPost_ret (h1.res rfl _ rfl) rfl ⟨_,rfl,OwO.nil _ _,(Still.alloc w _).trans (Still.alloc _ _)⟩
theorem aim_any (w:World):Calls Tryz.prog 178 #[.agg #[]] w fun e w'=>∃ x,e=.returned (.agg #[.string (nmV 3),x])/\OwO w' w.heap.size x (opV 3)/\Still w w':=by
 go_enter Tryz.func178,Tryz.ntmps178
 go_wp2_with fail
 obtain ⟨h1,h2,h3⟩:=vkThree w (nmV 3) (.slice (some ⟨w.heap.size+1+1,0,none⟩) 1 1) (.cells #[] 201) (.cells (opsOf (opV 3)).toArray 156)
 exact bodyPost_ret (h1.res rfl _ rfl) rfl ⟨_,rfl,OwO.one h2 (by omega),h3⟩
theorem vfire_any (w:World):Calls Tryz.prog 179 #[.agg #[]] w fun e w'=>∃ x,e=.returned (.agg #[.string (nmV 4),x])/\OwO w' w.heap.size x (opV 4)/\Still w w':=by
 go_enter Tryz.func179,Tryz.ntmps179
 go_wp2_with fail
 obtain ⟨h1,h2,h3⟩:=vkThree w (nmV 4) (.slice (some ⟨w.heap.size+1+1,0,none⟩) 1 1) (.cells #[] 201) (.cells (opsOf (opV 4)).toArray 156)
 exact bodyPost_ret (h1.res rfl _ rfl) rfl ⟨_,rfl,OwO.one h2 (by omega),h3⟩
theorem shield_any (w:World):Calls Tryz.prog 180 #[.agg #[]] w fun e w'=>∃ x,e=.returned (.agg #[.string (nmV 5),x])/\OwO w' w.heap.size x (opV 5)/\Still w w':=by
 go_enter Tryz.func180,Tryz.ntmps180
 go_wp2_with fail
 obtain ⟨h1,h2,h3⟩:=vkThree w (nmV 5) (.slice (some ⟨w.heap.size+1+1,0,none⟩) 1 1) (.cells #[] 201) (.cells (opsOf (opV 5)).toArray 156)
 exact bodyPost_ret (h1.res rfl _ rfl) rfl ⟨_,rfl,OwO.one h2 (by omega),h3⟩
theorem dash_any (w:World):Calls Tryz.prog 181 #[.agg #[]] w fun e w'=>∃ x,e=.returned (.agg #[.string (nmV 6),x])/\OwO w' w.heap.size x (opV 6)/\Still w w':=by
 go_enter Tryz.func181,Tryz.ntmps181
 go_wp2_with fail
 obtain ⟨h1,h2,h3⟩:=vkThree w (nmV 6) (.slice (some ⟨w.heap.size+1+1,0,none⟩) 1 1) (.cells #[] 201) (.cells (opsOf (opV 6)).toArray 156)
 exact bodyPost_ret (h1.res rfl _ rfl) rfl ⟨_,rfl,OwO.one h2 (by omega),h3⟩
theorem say_any (w:World):Calls Tryz.prog 182 #[.agg #[]] w fun e w'=>∃ x,e=.returned (.agg #[.string (nmV 7),x])/\OwO w' w.heap.size x (opV 7)/\Still w w':=by
 go_enter Tryz.func182,Tryz.ntmps182
 go_wp2_with fail
 obtain ⟨h1,h2,h3⟩:=vkThree w (nmV 7) (.slice (some ⟨w.heap.size+1+1,0,none⟩) 1 1) (.cells #[] 201) (.cells (opsOf (opV 7)).toArray 156)
 exact bodyPost_ret (h1.res rfl _ rfl) rfl ⟨_,rfl,OwO.one h2 (by omega),h3⟩
end Go.Proofs.YtlibdheihodniaaGreatDoor
