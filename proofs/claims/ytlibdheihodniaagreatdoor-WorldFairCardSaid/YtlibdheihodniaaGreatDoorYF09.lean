/- Parts of the proof, laid end to end. -/
import Derived.Test.YtlibdheihodniaaGreatDoorYF05
import Derived.Test.YtlibdheihodniaaGreatDoorYF07
import Derived.Test.YtlibdheihodniaaGreatDoorYF01
import Derived.Test.YtlibdheihodniaaGreatDoorYF03
namespace Go.Proofs.YtlibdheihodniaaGreatDoor
open Go.RowKit
open Ea
set_option maxRecDepth 100000
abbrev ccs (x:Scr):Array Value:=#[.int .i64 x.p,.int .i64 x.h,.int .i64 x.o,.int .i64 x.k]
abbrev cv (x:Scr):Value:=.agg (ccs x)
def Cb (w:World) (g:Nat) (x:Scr):Prop:=w.heap[g]?=some (.cells (ccs x) 50 (0,0))
theorem Cb.still {w w':World} {g:Nat} {x:Scr} (h:Cb w g x) (hs:Still w w'):Cb w' g x:=hs.kept_still h
theorem Cb.cells {w:World} {g:Nat} {x:Scr} (h:Cb w g x):w.cell? ⟨g,0,none⟩=some (.int .i64 x.p)/\w.cell? ⟨g,1,none⟩=some (.int .i64 x.h)/\w.cell? ⟨g,2,none⟩=some (.int .i64 x.o)/\w.cell? ⟨g,3,none⟩=some (.int .i64 x.k)/\∀ o,w.frozen? ⟨g,o,none⟩=false:=by
 refine ⟨?_, ?_, ?_, ?_,fun o=>frozen_of_row w g o _ _ h⟩ <;> (rw [cell_of_row _ _ _ _ _ _ h]; rfl)
abbrev newC (w:World) (x:Scr):World:=w.alloc (.cells (ccs x) 50)
theorem newC_cb (w:World) (x:Scr):Cb (newC w x) w.heap.size x:=heap_alloc_new w _
theorem Cb.put {w:World} {g:Nat} {x:Scr} (h0:Cb w g x) (a b c d:Int):Cb ((((w.setCell ⟨g,0,none⟩ (.int .i64 a)).setCell ⟨g,1,none⟩ (.int .i64 b)).setCell ⟨g,2,none⟩ (.int .i64 c)).setCell ⟨g,3,none⟩ (.int .i64 d)) g ⟨a,b,c,d⟩:=by
 unfold Cb at h0 ⊢
 have h1:=heap_setCell_same _ g 0 _ _ (.int .i64 a) h0
 have h2:=heap_setCell_same _ g 1 _ _ (.int .i64 b) h1
 have h3:=heap_setCell_same _ g 2 _ _ (.int .i64 c) h2
 have h4:=heap_setCell_same _ g 3 _ _ (.int .i64 d) h3
 exact h4.trans (by kernel_rfl)
theorem Cb.other {w:World} {g:Nat} {x:Scr} (h:Cb w g x) (k o:Nat) (v:Value) (hk:g≠k):Cb (w.setCell ⟨k,o,none⟩ v) g x:=by
 unfold Cb at h ⊢
 rw [heap_setCell_other _ _ _ _ hk]
 exact h
theorem Cb.others {w:World} {g k:Nat} {x:Scr} (h:Cb w g x) (hk:g≠k) (a b c d:Int):Cb ((((w.setCell ⟨k,0,none⟩ (.int .i64 a)).setCell ⟨k,1,none⟩ (.int .i64 b)).setCell ⟨k,2,none⟩ (.int .i64 c)).setCell ⟨k,3,none⟩ (.int .i64 d)) g x :=
 (((h.other k 0 _ hk).other k 1 _ hk).other k 2 _ hk).other k 3 _ hk
theorem Cb.sp {w:World} {g:Nat} {x:Scr} (h:Cb w g x) (v:Int):Cb (w.setCell ⟨g,0,none⟩ (.int .i64 v)) g { x with p:=v }:=(heap_setCell_same w g 0 _ _ (.int .i64 v) h).trans (by kernel_rfl)
theorem Cb.sh {w:World} {g:Nat} {x:Scr} (h:Cb w g x) (v:Int):Cb (w.setCell ⟨g,1,none⟩ (.int .i64 v)) g { x with h:=v }:=(heap_setCell_same w g 1 _ _ (.int .i64 v) h).trans (by kernel_rfl)
theorem Cb.so {w:World} {g:Nat} {x:Scr} (h:Cb w g x) (v:Int):Cb (w.setCell ⟨g,2,none⟩ (.int .i64 v)) g { x with o:=v }:=(heap_setCell_same w g 2 _ _ (.int .i64 v) h).trans (by kernel_rfl)
theorem Cb.sk {w:World} {g:Nat} {x:Scr} (h:Cb w g x) (v:Int):Cb (w.setCell ⟨g,3,none⟩ (.int .i64 v)) g { x with k:=v }:=(heap_setCell_same w g 3 _ _ (.int .i64 v) h).trans (by kernel_rfl)
theorem Cb.load {w:World} {g:Nat} {x:Scr} (h:Cb w g x):(loadVar 50 ⟨g,0,none⟩).run Tryz.prog w=.ok (cv x) w:=by
 obtain ⟨c0,c1,c2,c3,cf⟩:=h.cells
 go_simp
theorem Cb.rest {fn:Func} {p q:Tmp} {w:World} {g:Nat} {x:Scr} (hb:Cb w g x) (h:fn.results=#[.cell p 50,.tmp q]) (tmps:Array Value) (t:Value) (hp:tmps.getD p undef=.pointer (some ⟨g,0,none⟩)) (hq:tmps.getD q undef=t) :
  (results fn tmps).run Tryz.prog w=.ok (.tuple #[cv x,t]) w:=by
 have hp':tmps[p]?.getD undef=.pointer (some ⟨g,0,none⟩):=by simpa using hp
 have hq':tmps[q]?.getD undef=t:=by simpa using hq
 simp [results,h,hp',hq',asAddr,hb.load]
theorem Cb.res2 {fn:Func} {p q r:Tmp} {w:World} {g k:Nat} {a b:Scr} (ha:Cb w g a) (hb:Cb w k b) (h:fn.results=#[.cell p 50,.cell q 50,.tmp r]) (tmps:Array Value) (t:Value) (hp:tmps.getD p undef=.pointer (some ⟨g,0,none⟩)) (hq:tmps.getD q undef=.pointer (some ⟨k,0,none⟩)) (hr:tmps.getD r undef=t) :
  (results fn tmps).run Tryz.prog w=.ok (.tuple #[cv a,cv b,t]) w:=by
 have hp':tmps[p]?.getD undef=.pointer (some ⟨g,0,none⟩):=by simpa using hp
 have hq':tmps[q]?.getD undef=.pointer (some ⟨k,0,none⟩):=by simpa using hq
 have hr':tmps[r]?.getD undef=t:=by simpa using hr
 simp [results,h,hp',hq',hr',asAddr,ha.load,hb.load]
def eqC (x y:Scr):Bool:=(x.p == y.p) && ((x.h == y.h) && ((x.o == y.o) && (x.k == y.k)))
theorem eqC_refl (x:Scr):eqC x x=true:=by unfold eqC; simp
theorem cpart_in (x:Scr) (w:World):(part 3 (ccs x) 0).run Tryz.prog w=.ok (.int .i64 x.p) w/\(part 3 (ccs x) 1).run Tryz.prog w=.ok (.int .i64 x.h) w/\(part 3 (ccs x) 2).run Tryz.prog w=.ok (.int .i64 x.o) w/\(part 3 (ccs x) 3).run Tryz.prog w=.ok (.int .i64 x.k) w:=by
 refine ⟨?_, ?_, ?_, ?_⟩ <;> go_simp
theorem equalC_int (d:Nat) (x y:Int) (w:World):(Op.equalIn (d+1) 3 (.int .i64 x) (.int .i64 y)).run Tryz.prog w=.ok (x == y) w:=by
 go_simp
theorem stC {b c:Bool} {w:World} {R:Result Bool} (h:R=.ok c w):(if (!b)=true then Result.ok false w else R)=.ok (b && c) w:=by
 cases b <;> simp [h]
theorem stC1 (b:Bool) {w:World}:(if (!b)=true then Result.ok false w else Result.ok true w)=.ok b w:=by
 cases b <;> rfl
theorem equal_cv (x y:Scr) (w:World):(Op.equalIn 10000 50 (cv x) (cv y)).run Tryz.prog w=.ok (eqC x y) w:=by
 have c0:=fun w=>(cpart_in x w).1
 have d0:=fun w=>(cpart_in y w).1
 have r0:=fun w=>equalC_int 9998 x.p y.p w
 have c1:=fun w=>(cpart_in x w).2.1
 have d1:=fun w=>(cpart_in y w).2.1
 have r1:=fun w=>equalC_int 9998 x.h y.h w
 have c2:=fun w=>(cpart_in x w).2.2.1
 have d2:=fun w=>(cpart_in y w).2.2.1
 have r2:=fun w=>equalC_int 9998 x.o y.o w
 have c3:=fun w=>(cpart_in x w).2.2.2
 have d3:=fun w=>(cpart_in y w).2.2.2
 have r3:=fun w=>equalC_int 9998 x.k y.k w
 rw [run_equalIn_struct w 9999 _ _ _ (by kernel_rfl) (by kernel_rfl)]
 have e : (Tryz.prog.fieldsOf 50) = #[⟨ "Points", 3, 0, false, "", "", 0⟩, ⟨ "Hits", 3, 1, false, "", "", 8⟩, ⟨ "Outs", 3, 2, false, "", "", 16⟩, ⟨ "Streak", 3, 3, false, "", "", 24⟩] := by kernel_rfl
 rw [e]
 simp only [Op.eqFields,ne_eq,String.reduceEq,not_false_eq_true,if_true,Sem.run_bind,c0,c1,c2,c3,d0,d1,d2,d3,Result.andThen_ok,r0,r1,r2,r3,Sem.run_ite,Sem.run_pure]
 unfold eqC
 exact stC (stC (stC (stC1 _)))
theorem neq_cv (x y:Scr) (w:World):(binOp .neq 50 (cv x) (cv y)).run Tryz.prog w=.ok (.bool (!eqC x y)) w:=by
 rw [run_neq_struct,equal_cv]; rfl
theorem neq_cv_f (x:Scr) (w:World):(binOp .neq 50 (cv x) (cv x)).run Tryz.prog w=.ok (.bool false) w:=by
 rw [neq_cv,eqC_refl]; rfl
theorem guard_cv (op:BinOp) (a b:Operand) (xs ys:Array Value) (w:World):(eqGuard op 50 a b (.agg xs) (.agg ys)).run Tryz.prog w=.ok () w:=run_eqGuard_agg w op _ a b xs ys (by kernel_rfl)
def KC:Kd Scr:=⟨fun m=>(ccs m).toList,4,zC,fun _=>rfl,fun m u hu=>by
 simp at hu
 rcases hu with rfl | rfl | rfl | rfl <;> rfl,by decide⟩
theorem infoC:∃ i,Tryz.prog.info? 50=some i/\i.zero=some (.agg (KC.f KC.d).toArray)/\i.size=KC.k/\i.bytes=32:=⟨_,rfl,rfl,rfl,rfl⟩
theorem rdC {w:World} {B o n:Nat} {L:List Scr} (h:RdG KC w (some ⟨B,o,none⟩) n L) {i:Nat} (hi:i<n):w.cell? ⟨B,o+i*4,none⟩=some (.int .i64 (sc L i).p)/\w.cell? ⟨B,o+i*4+1,none⟩=some (.int .i64 (sc L i).h)/\w.cell? ⟨B,o+i*4+2,none⟩=some (.int .i64 (sc L i).o)/\w.cell? ⟨B,o+i*4+3,none⟩=some (.int .i64 (sc L i).k) :=
 ⟨h.get hi 0 _ rfl,h.get hi 1 _ rfl,h.get hi 2 _ rfl,h.get hi 3 _ rfl⟩
theorem owC {e:TypeId} {w:World} {B g n cap:Nat} {L:List Scr} (h:OwG KC e w B (.slice (some ⟨g,0,none⟩) n cap) L) {i:Nat} (hi:i<L.length):w.cell? ⟨g,i*4,none⟩=some (.int .i64 (sc L i).p)/\w.cell? ⟨g,i*4+1,none⟩=some (.int .i64 (sc L i).h)/\w.cell? ⟨g,i*4+2,none⟩=some (.int .i64 (sc L i).o)/\w.cell? ⟨g,i*4+3,none⟩=some (.int .i64 (sc L i).k)/\∀ o,w.frozen? ⟨g,o,none⟩=false :=
 ⟨h.get hi 0 _ rfl,h.get hi 1 _ rfl,h.get hi 2 _ rfl,h.get hi 3 _ rfl,h.frozen⟩
def F4 (w0 w:World) (a b x y:Scr):Prop:=Cb w w0.heap.size a/\Cb w (w0.heap.size+1) b/\Cb w (w0.heap.size+1+1) x/\Cb w (w0.heap.size+1+1+1) y/\Still w0 w
theorem F4.new (w:World) (a b:Scr):F4 w (newC (newC (newC (newC w a) b) zC) zC) a b zC zC:=by
 have A0:=Still.alloc w (.cells (ccs a) 50)
 have A1:=Still.alloc (newC w a) (.cells (ccs b) 50)
 have A2:=Still.alloc (newC (newC w a) b) (.cells (ccs zC) 50)
 have A3:=Still.alloc (newC (newC (newC w a) b) zC) (.cells (ccs zC) 50)
 have q0:=((newC_cb (newC w a) b).still A2).still A3
 have r0:=(newC_cb (newC (newC w a) b) zC).still A3
 have s0:=newC_cb (newC (newC (newC w a) b) zC) zC
 simp only [size_alloc] at q0 r0 s0
 exact ⟨((newC_cb w a).still A1).still A2 |>.still A3,q0,r0,s0,((A0.trans A1).trans A2).trans A3⟩
theorem F4.on {w0 w w':World} {a b x y:Scr} (h:F4 w0 w a b x y) (hs:Still w w'):F4 w0 w' a b x y :=
 ⟨h.1.still hs,h.2.1.still hs,h.2.2.1.still hs,h.2.2.2.1.still hs,h.2.2.2.2.trans hs⟩
theorem setC_frC {a w:World} (h:Still a w) (g o:Nat) (v:Value) (hg:a.heap.size<=g):Still a (w.setCell ⟨g,o,none⟩ v):=h.setCell _ _ (.inr hg)
end Go.Proofs.YtlibdheihodniaaGreatDoor
set_option maxRecDepth 100000
namespace Go.Proofs.YtlibdheihodniaaGreatDoor.Ea
def pl (R:List Int) (a:Nat):Nat:=(R.getD a 0).toNat
def cI (x y:Int):Int:=if x<y then -1 else if x > y then 1 else 0
def orI:List Int->Int
 | []=>0
 | x :: r=>if x≠0 then x else orI r
theorem cI_cases (x y:Int):x<y/\cI x y=-1\/x=y/\cI x y=0\/y<x/\cI x y=1:=by
 unfold cI
 by_cases h1:x<y
 ·rw [if_pos h1]; exact .inl ⟨h1,rfl⟩
 ·rw [if_neg h1]
  by_cases h2:x > y
  ·rw [if_pos h2]; exact .inr (.inr ⟨h2,rfl⟩)
  ·rw [if_neg h2]; exact .inr (.inl ⟨by omega,rfl⟩)
end Go.Proofs.YtlibdheihodniaaGreatDoor.Ea
set_option maxRecDepth 100000
namespace Go.Proofs.YtlibdheihodniaaGreatDoor
open Go.RowKit
section
variable {P:Program}
end
end Go.Proofs.YtlibdheihodniaaGreatDoor
