import Derived.Test.YthcjckgmdokmdaaGreatDoorXQ01
import Derived.Test.YthcjckgmdokmdaaGreatDoorXQ22
import Derived.Lib.AppendIntMem
import Derived.Lib.LaidTab
import Derived.Lib.ItoaLen
import Derived.Deep.DeepCutAuto
set_option maxHeartbeats 4000000
namespace Go.Proofs.YthcjckgmdokmdaaGreatDoor
open Go.RowKit
set_option maxRecDepth 100000
theorem Qz {w w':World} (h:Below w.heap.size w w'):Yc w w':=⟨h.os,h.tape,h.output,h.size,fun k hk _=>h.block k hk⟩
def PTabV (w : World) : Prop := Lib.TabIs Tryz.prog w "internal/strconv.uint64pow10" .u64 Lib.pow10Tab
theorem PTabV.sT {w w':World} (h:PTabV w) (hs:Yc w w'):PTabV w':=(Lib.tabBelow_of_tabIs h) w' hs.below
def I64 (n:Int):Prop:=-9223372036854775808<=n/\n<=9223372036854775807
def itS (n:Int):ByteArray:=⟨(Lib.itoa n).toArray⟩
theorem YN {n:Int} (h:I64 n):(itS n).size<=21:=by
 have:=Lib.itoa_length_le n h.1 h.2;simpa [itS,ByteArray.size] using this
theorem ZL (n:Int) (h:I64 n) (w:World) (ht:PTabV w):Ya 23 #[.int .i64 n] w (.string (itS n)):=by
 refine (Tryz.strconv_Itoa n h.1 h.2 w ht).mono ?_;rintro e w' ⟨rfl,k,os,rfl⟩;exact ⟨rfl,Qz (Lib.below_grow _ _ (Nat.le_refl _) _ _)⟩
theorem Yr {a b:ByteArray} {m n:Nat} (ha:a.size<=m) (hb:b.size<=n) (h:m+n<=9223372036854775807):∃ y,a ++ b=y/\y.size<=m+n/\Op.stringOp .add a b=pure (.string y):=by
 refine ⟨_,rfl,by rw [ByteArray.size_append]; omega, ?_⟩;unfold Op.stringOp;simp only;rw [if_neg];show ¬ ((a.size+b.size:Nat):Int) > 9223372036854775807;omega
def ltS (s:Nat):ByteArray:=⟨#[UInt8.ofNat (65+s)]⟩
def Yu (n:Int):Bool:=decide (0<=n/\n<=5)
def ZM (n:Int):Bool:=decide (1<=n/\n<=3)
def ZD (n:Int):ByteArray:=if n=1 then ⟨#[104,101,97,108]⟩ else if n=2 then ⟨#[99,104,97,114,103,101]⟩ else ⟨#[112,114,105,122,101]⟩
theorem YU (s:Nat):(ltS s).size<=1:=Nat.le_refl 1
theorem Wt (n:Int):(ZD n).size<=6:=by
 unfold ZD;split
 ·decide
 ·split <;> decide
theorem seatB_iff {n:Int}:Yu n=true ↔ 0<=n/\n<=5:=decide_eq_true_iff
theorem kindB_iff {n:Int}:ZM n=true ↔ 1<=n/\n<=3:=decide_eq_true_iff
theorem Wu (n:Int) (h:Yu n=true) (w:World):Ya 22 #[.int .i64 n] w (.string (ltS n.toNat)):=by
 have h1:=seatB_iff.1 h;obtain ⟨k,rfl⟩:∃ k:Nat,n=(k:Int):=⟨n.toNat,by omega⟩;have hk:k<6:=by omega
 clear h h1;match k,hk with
 | 0,_ | 1,_ | 2,_ | 3,_ | 4,_ | 5,_ =>
  go_enter Tryz.func22,Tryz.ntmps22;go_wp2_with fail;go_ret;exact ⟨rfl,Fr.refl _ _⟩
structure Nv where
 k:Int
 a:Int
 b:Int
def okN (x:Nv):Bool:=(x.k == 1 && Yu x.a) || (x.k == 2 && (Yu x.a && Yu x.b)) || (x.k == 3 && (Yu x.a && Yu x.b)) || (x.k == 4 && Yu x.a) || (x.k == 5 && (Yu x.a && ZM x.b)) || (x.k == 6 && ZM x.b) || (x.k == 7 && (Yu x.a && Yu x.b)) || (x.k == 8 && Yu x.a)
def lnS (x:Nv):ByteArray :=
 if x.k=1 then (ltS x.a.toNat ++ ⟨#[32,102,105,114,101,100,32]⟩) ++ itS x.b
 else if x.k=2 then (ltS x.a.toNat ++ ⟨#[32,104,105,116,32,98,121,32]⟩) ++ ltS x.b.toNat
 else if x.k=3 then (ltS x.a.toNat ++ ⟨#[32,111,117,116,32,98,121,32]⟩) ++ ltS x.b.toNat
 else if x.k=4 then ltS x.a.toNat ++ ⟨#[32,98,97,99,107]⟩
 else if x.k=5 then (ltS x.a.toNat ++ ⟨#[32,116,111,111,107,32]⟩) ++ ZD x.b
 else if x.k=6 then ((⟨#[115,112,111,116,32]⟩ ++ itS x.a) ++ ⟨#[32]⟩) ++ ZD x.b
 else if x.k=7 then (ltS x.a.toNat ++ ⟨#[32,98,111,117,110,99,101,115,32]⟩) ++ ltS x.b.toNat
 else (ltS x.a.toNat ++ ⟨#[32,115,97,121,115,32]⟩) ++ itS x.b
abbrev Yv (x:Nv):Array Value:=#[.int .i64 x.k,.int .i64 x.a,.int .i64 x.b]
def Nvb (w:World) (g:Nat) (x:Nv):Prop:=w.heap[g]?=some (.cells (Yv x) 49 (0,0))
theorem Nvb.sT {w w':World} {g:Nat} {x:Nv} (h:Nvb w g x) (hs:Yc w w'):Nvb w' g x:=hs.kept_still h
theorem Nvb.cells {w:World} {g:Nat} {x:Nv} (h:Nvb w g x):w.cell? ⟨g,0,none⟩=some (.int .i64 x.k)/\w.cell? ⟨g,1,none⟩=some (.int .i64 x.a)/\w.cell? ⟨g,2,none⟩=some (.int .i64 x.b)/\∀ o,w.frozen? ⟨g,o,none⟩=false:=by
 refine ⟨?_, ?_, ?_,fun o=>frozen_of_row w g o _ _ h⟩ <;> (rw [cell_of_row _ _ _ _ _ _ h]; rfl)
structure Ctr where
 tk:Int
 sl:Int
 sp:Int
 cp:Int
 lt:Int
 sn:Int
 gt:Int
 rf:Int
 ac:Int
def Ctr.In (c:Ctr):Prop:=I64 c.tk/\I64 c.sl/\I64 c.sp/\I64 c.cp/\I64 c.lt/\I64 c.sn/\I64 c.gt/\I64 c.rf/\I64 c.ac
abbrev VH (c:Ctr):Array Value:=#[.int .i64 c.tk,.int .i64 c.sl,.int .i64 c.sp,.int .i64 c.cp,.int .i64 c.lt,.int .i64 c.sn,.int .i64 c.gt,.int .i64 c.rf,.int .i64 c.ac]
def Ctb (w:World) (g:Nat) (c:Ctr):Prop:=w.heap[g]?=some (.cells (VH c) 52 (0,0))
theorem Ctb.cells {w:World} {g:Nat} {c:Ctr} (h:Ctb w g c):w.cell? ⟨g,0,none⟩=some (.int .i64 c.tk)/\w.cell? ⟨g,1,none⟩=some (.int .i64 c.sl)/\w.cell? ⟨g,2,none⟩=some (.int .i64 c.sp)/\w.cell? ⟨g,3,none⟩=some (.int .i64 c.cp)/\w.cell? ⟨g,4,none⟩=some (.int .i64 c.lt)/\w.cell? ⟨g,5,none⟩=some (.int .i64 c.sn)/\w.cell? ⟨g,6,none⟩=some (.int .i64 c.gt)/\w.cell? ⟨g,7,none⟩=some (.int .i64 c.rf)/\w.cell? ⟨g,8,none⟩=some (.int .i64 c.ac):=by
 refine ⟨?_, ?_, ?_, ?_, ?_, ?_, ?_, ?_, ?_⟩ <;> (rw [cell_of_row _ _ _ _ _ _ h]; rfl)
def prS (c:Ctr):ByteArray:=(((((((((((((((((⟨#[116,105,99,107,115,32]⟩ ++ itS c.tk:ByteArray) ++ ⟨#[32,115,116,97,108,108,115,32]⟩) ++ itS c.sl) ++ ⟨#[32,115,116,101,112,115,32]⟩) ++ itS c.sp) ++ ⟨#[32,99,111,112,105,101,115,32]⟩) ++ itS c.cp) ++ ⟨#[32,108,97,116,101,32]⟩) ++ itS c.lt) ++ ⟨#[32,115,101,110,116,32]⟩) ++ itS c.sn) ++ ⟨#[32,103,111,116,32]⟩) ++ itS c.gt) ++ ⟨#[32,114,101,102,117,115,101,100,32]⟩) ++ itS c.rf) ++ ⟨#[32,97,99,99,101,112,116,101,100,32]⟩) ++ itS c.ac)
def ivB (x y:Int) (c r:Nat):Bool:=decide (4096*(c:Int)<=x/\x<4096*((c:Int)+1)/\4096*(r:Int)<=y/\y<4096*((r:Int)+1))
theorem ivB_iff {x y:Int} {c r:Nat}:ivB x y c r=true ↔ (4096*(c:Int)<=x/\x<4096*((c:Int)+1)/\4096*(r:Int)<=y/\y<4096*((r:Int)+1)):=by simp [ivB]
theorem JV {x y:Int} {c r:Nat} (h:¬ (4096*(c:Int)<=x/\x<4096*((c:Int)+1)/\4096*(r:Int)<=y/\y<4096*((r:Int)+1))):ivB x y c r=false:=by
 cases e:ivB x y c r
 ·rfl
 ·exact absurd (ivB_iff.1 e) h
theorem IG (x y:Int) (c r:Nat) (hc:c<=4096) (hr:r<=4096) (w:World):Ya 54 #[.agg #[.int .i64 x,.int .i64 y],.int .i64 (c:Int),.int .i64 (r:Int)] w (.bool (ivB x y c r)):=by
 have A:=aL w (.cells #[.int .i64 x,.int .i64 y] 54);have HA:=hid A;clear A;by_cases h1:4096*(c:Int)<=x
 ·by_cases h2:x<4096*((c:Int)+1)
  ·by_cases h3:4096*(r:Int)<=y
   ·by_cases h4:y<4096*((r:Int)+1)
    ·have e:ivB x y c r=true:=ivB_iff.2 ⟨h1,h2,h3,h4⟩;go_enter Tryz.func54,Tryz.ntmps54;go_wp2_with fail;go_ret;exact ⟨by first | rfl | (rw [e]; rfl),HA.o⟩
    ·have e:ivB x y c r=false:=JV (fun h=>h4 h.2.2.2);go_enter Tryz.func54,Tryz.ntmps54;go_wp2_with fail;go_ret;exact ⟨by first | rfl | (rw [e]; rfl),HA.o⟩
   ·have e:ivB x y c r=false:=JV (fun h=>h3 h.2.2.1);go_enter Tryz.func54,Tryz.ntmps54;go_wp2_with fail;go_ret;exact ⟨by first | rfl | (rw [e]; rfl),HA.o⟩
  ·have e:ivB x y c r=false:=JV (fun h=>h2 h.2.1);go_enter Tryz.func54,Tryz.ntmps54;go_wp2_with fail;go_ret;exact ⟨by first | rfl | (rw [e]; rfl),HA.o⟩
 ·have e:ivB x y c r=false:=JV (fun h=>h1 h.1);go_enter Tryz.func54,Tryz.ntmps54;go_wp2_with fail;go_ret;exact ⟨by first | rfl | (rw [e]; rfl),HA.o⟩
end Go.Proofs.YthcjckgmdokmdaaGreatDoor
