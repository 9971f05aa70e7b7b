import Derived.Test.YthcjckgmdokmdaaGreatDoorXQ05
import Derived.Test.YthcjckgmdokmdaaGreatDoorXQ07
import Derived.Test.YthcjckgmdokmdaaGreatDoorXQ03
namespace Go.Proofs.YthcjckgmdokmdaaGreatDoor
open Go.RowKit
open Ea
set_option maxRecDepth 100000
abbrev ccs (x:Scr):Array Value:=#[.int .i64 x.p,.int .i64 x.h,.int .i64 x.o,.int .i64 x.k]
abbrev cv (x:Scr):Value:=.agg (ccs x)
def Cb (w:World) (g:Nat) (x:Scr):Prop:=w.heap[g]?=some (.cells (ccs x) 61 (0,0))
theorem Cb.sT {w w':World} {g:Nat} {x:Scr} (h:Cb w g x) (hs:Yc w w'):Cb w' g x:=hs.kept_still h
theorem Cb.cells {w:World} {g:Nat} {x:Scr} (h:Cb w g x):w.cell? ⟨g,0,none⟩=some (.int .i64 x.p)/\w.cell? ⟨g,1,none⟩=some (.int .i64 x.h)/\w.cell? ⟨g,2,none⟩=some (.int .i64 x.o)/\w.cell? ⟨g,3,none⟩=some (.int .i64 x.k)/\∀ o,w.frozen? ⟨g,o,none⟩=false:=by
 refine ⟨?_, ?_, ?_, ?_,fun o=>frozen_of_row w g o _ _ h⟩ <;> (rw [cell_of_row _ _ _ _ _ _ h]; rfl)
abbrev YY (w:World) (x:Scr):World:=w.alloc (.cells (ccs x) 61)
theorem ZK (w:World) (x:Scr):Cb (YY w x) w.heap.size x:=heap_alloc_new w _
theorem Cb.put {w:World} {g:Nat} {x:Scr} (h0:Cb w g x) (a b c d:Int):Cb ((((w.setCell ⟨g,0,none⟩ (.int .i64 a)).setCell ⟨g,1,none⟩ (.int .i64 b)).setCell ⟨g,2,none⟩ (.int .i64 c)).setCell ⟨g,3,none⟩ (.int .i64 d)) g ⟨a,b,c,d⟩:=by
 unfold Cb at h0 ⊢;have h1:=heap_setCell_same _ g 0 _ _ (.int .i64 a) h0;have h2:=heap_setCell_same _ g 1 _ _ (.int .i64 b) h1;have h3:=heap_setCell_same _ g 2 _ _ (.int .i64 c) h2;have h4:=heap_setCell_same _ g 3 _ _ (.int .i64 d) h3;exact h4.trans (by kernel_rfl)
theorem Cb.other {w:World} {g:Nat} {x:Scr} (h:Cb w g x) (k o:Nat) (v:Value) (hk:g≠k):Cb (w.setCell ⟨k,o,none⟩ v) g x:=by
 unfold Cb at h ⊢;rw [heap_setCell_other _ _ _ _ hk];exact h
theorem Cb.others {w:World} {g k:Nat} {x:Scr} (h:Cb w g x) (hk:g≠k) (a b c d:Int):Cb ((((w.setCell ⟨k,0,none⟩ (.int .i64 a)).setCell ⟨k,1,none⟩ (.int .i64 b)).setCell ⟨k,2,none⟩ (.int .i64 c)).setCell ⟨k,3,none⟩ (.int .i64 d)) g x :=
 (((h.other k 0 _ hk).other k 1 _ hk).other k 2 _ hk).other k 3 _ hk
theorem Cb.sp {w:World} {g:Nat} {x:Scr} (h:Cb w g x) (v:Int):Cb (w.setCell ⟨g,0,none⟩ (.int .i64 v)) g { x with p:=v }:=(heap_setCell_same w g 0 _ _ (.int .i64 v) h).trans (by kernel_rfl)
theorem Cb.sh {w:World} {g:Nat} {x:Scr} (h:Cb w g x) (v:Int):Cb (w.setCell ⟨g,1,none⟩ (.int .i64 v)) g { x with h:=v }:=(heap_setCell_same w g 1 _ _ (.int .i64 v) h).trans (by kernel_rfl)
theorem Cb.so {w:World} {g:Nat} {x:Scr} (h:Cb w g x) (v:Int):Cb (w.setCell ⟨g,2,none⟩ (.int .i64 v)) g { x with o:=v }:=(heap_setCell_same w g 2 _ _ (.int .i64 v) h).trans (by kernel_rfl)
theorem Cb.sk {w:World} {g:Nat} {x:Scr} (h:Cb w g x) (v:Int):Cb (w.setCell ⟨g,3,none⟩ (.int .i64 v)) g { x with k:=v }:=(heap_setCell_same w g 3 _ _ (.int .i64 v) h).trans (by kernel_rfl)
theorem Cb.load {w:World} {g:Nat} {x:Scr} (h:Cb w g x):(loadVar 61 ⟨g,0,none⟩).run Tryz.prog w=.ok (cv x) w:=by
 obtain ⟨c0,c1,c2,c3,cf⟩:=h.cells;go_simp
theorem Cb.rest {fn:Func} {p q:Tmp} {w:World} {g:Nat} {x:Scr} (hb:Cb w g x) (h:fn.results=#[.cell p 61,.tmp q]) (tmps:Array Value) (t:Value) (hp:tmps.getD p undef=.pointer (some ⟨g,0,none⟩)) (hq:tmps.getD q undef=t) :
  (results fn tmps).run Tryz.prog w=.ok (.tuple #[cv x,t]) w:=by
 have hp':tmps[p]?.getD undef=.pointer (some ⟨g,0,none⟩):=by simpa using hp
 have hq':tmps[q]?.getD undef=t:=by simpa using hq
 simp [results,h,hp',hq',asAddr,hb.load]
theorem Cb.res2 {fn:Func} {p q r:Tmp} {w:World} {g k:Nat} {a b:Scr} (ha:Cb w g a) (hb:Cb w k b) (h:fn.results=#[.cell p 61,.cell q 61,.tmp r]) (tmps:Array Value) (t:Value) (hp:tmps.getD p undef=.pointer (some ⟨g,0,none⟩)) (hq:tmps.getD q undef=.pointer (some ⟨k,0,none⟩)) (hr:tmps.getD r undef=t) :
  (results fn tmps).run Tryz.prog w=.ok (.tuple #[cv a,cv b,t]) w:=by
 have hp':tmps[p]?.getD undef=.pointer (some ⟨g,0,none⟩):=by simpa using hp
 have hq':tmps[q]?.getD undef=.pointer (some ⟨k,0,none⟩):=by simpa using hq
 have hr':tmps[r]?.getD undef=t:=by simpa using hr
 simp [results,h,hp',hq',hr',asAddr,ha.load,hb.load]
def KC:Kd Scr:=⟨fun m=>(ccs m).toList,4,zC,fun _=>rfl,fun m u hu=>by
 simp at hu;rcases hu with rfl | rfl | rfl | rfl <;> rfl,by decide⟩
theorem Qm:∃ i,Tryz.prog.info? 61=some i/\i.zero=some (.agg (KC.f KC.d).toArray)/\i.size=KC.k/\i.bytes=32:=⟨_,rfl,rfl,rfl,rfl⟩
theorem rdC {w:World} {B o n:Nat} {L:List Scr} (h:RdG KC w (some ⟨B,o,none⟩) n L) {i:Nat} (hi:i<n):w.cell? ⟨B,o+i*4,none⟩=some (.int .i64 (sc L i).p)/\w.cell? ⟨B,o+i*4+1,none⟩=some (.int .i64 (sc L i).h)/\w.cell? ⟨B,o+i*4+2,none⟩=some (.int .i64 (sc L i).o)/\w.cell? ⟨B,o+i*4+3,none⟩=some (.int .i64 (sc L i).k) :=
 ⟨h.get hi 0 _ rfl,h.get hi 1 _ rfl,h.get hi 2 _ rfl,h.get hi 3 _ rfl⟩
theorem owC {e:TypeId} {w:World} {B g n cap:Nat} {L:List Scr} (h:OwG KC e w B (.slice (some ⟨g,0,none⟩) n cap) L) {i:Nat} (hi:i<L.length):w.cell? ⟨g,i*4,none⟩=some (.int .i64 (sc L i).p)/\w.cell? ⟨g,i*4+1,none⟩=some (.int .i64 (sc L i).h)/\w.cell? ⟨g,i*4+2,none⟩=some (.int .i64 (sc L i).o)/\w.cell? ⟨g,i*4+3,none⟩=some (.int .i64 (sc L i).k)/\∀ o,w.frozen? ⟨g,o,none⟩=false :=
 ⟨h.get hi 0 _ rfl,h.get hi 1 _ rfl,h.get hi 2 _ rfl,h.get hi 3 _ rfl,h.frozen⟩
def F4 (w0 w:World) (a b x y:Scr):Prop:=Cb w w0.heap.size a/\Cb w (w0.heap.size+1) b/\Cb w (w0.heap.size+1+1) x/\Cb w (w0.heap.size+1+1+1) y/\Yc w0 w
theorem F4.new (w:World) (a b:Scr):F4 w (YY (YY (YY (YY w a) b) zC) zC) a b zC zC:=by
 have A0:=aL w (.cells (ccs a) 61);have A1:=aL (YY w a) (.cells (ccs b) 61);have A2:=aL (YY (YY w a) b) (.cells (ccs zC) 61);have A3:=aL (YY (YY (YY w a) b) zC) (.cells (ccs zC) 61);have q0:=((ZK (YY w a) b).sT A2).sT A3;have r0:=(ZK (YY (YY w a) b) zC).sT A3;have s0:=ZK (YY (YY (YY w a) b) zC) zC;simp only [Yf] at q0 r0 s0;exact ⟨((ZK w a).sT A1).sT A2 |>.sT A3,q0,r0,s0,((A0.trans A1).trans A2).trans A3⟩
theorem F4.on {w0 w w':World} {a b x y:Scr} (h:F4 w0 w a b x y) (hs:Yc w w'):F4 w0 w' a b x y :=
 ⟨h.1.sT hs,h.2.1.sT hs,h.2.2.1.sT hs,h.2.2.2.1.sT hs,h.2.2.2.2.trans hs⟩
theorem F4.setA {w0 w:World} {a b x y a':Scr} (h:F4 w0 w a b x y) (o:Nat) (v:Value) (ha:Cb (w.setCell ⟨w0.heap.size,o,none⟩ v) w0.heap.size a'):F4 w0 (w.setCell ⟨w0.heap.size,o,none⟩ v) a' b x y :=
 ⟨ha,h.2.1.other _ _ _ (by omega),h.2.2.1.other _ _ _ (by omega),h.2.2.2.1.other _ _ _ (by omega),h.2.2.2.2.setCell _ _ (.inr (Nat.le_refl _))⟩
theorem F4.setB {w0 w:World} {a b x y b':Scr} (h:F4 w0 w a b x y) (o:Nat) (v:Value) (hb:Cb (w.setCell ⟨w0.heap.size+1,o,none⟩ v) (w0.heap.size+1) b'):F4 w0 (w.setCell ⟨w0.heap.size+1,o,none⟩ v) a b' x y :=
 ⟨h.1.other _ _ _ (by omega),hb,h.2.2.1.other _ _ _ (by omega),h.2.2.2.1.other _ _ _ (by omega),h.2.2.2.2.setCell _ _ (.inr (by simp))⟩
theorem YV {a w:World} (h:Yc a w) (g o:Nat) (v:Value) (hg:a.heap.size<=g):Yc a (w.setCell ⟨g,o,none⟩ v):=h.setCell _ _ (.inr hg)
end Go.Proofs.YthcjckgmdokmdaaGreatDoor
set_option maxRecDepth 100000
namespace Go.Proofs.YthcjckgmdokmdaaGreatDoor.Ea
def pl (R:List Int) (a:Nat):Nat:=(R.getD a 0).toNat
end Go.Proofs.YthcjckgmdokmdaaGreatDoor.Ea
set_option maxRecDepth 100000
namespace Go.Proofs.YthcjckgmdokmdaaGreatDoor
open Go.RowKit
section
variable {P:Program}
end
end Go.Proofs.YthcjckgmdokmdaaGreatDoor
