/- Parts of the proof, laid end to end. -/
import Derived.Test.YtlibdheihodniaaGreatDoorYF15
import Derived.Test.YtlibdheihodniaaGreatDoorYF14
import Derived.Test.YtlibdheihodniaaGreatDoorYF17
import Derived.Deep.DeepCutAuto
set_option maxHeartbeats 8000000
namespace Go.Proofs.YtlibdheihodniaaGreatDoor
open Go.RowKit
open Pu Gp Ap Vp Np Za Ka Ja Ea Ha Hg Hi
set_option maxRecDepth 100000
theorem bs_mv {o:Oper} {ρ:Operand->Value} {x:Operand} {s:Mv} (ho:o.op=.buildSlice 30 1 #[(0,x)]) (hx:ρ x=mv s) (u:World):(execOp ρ o).run Tryz.prog u=.ok (.value (.slice (some ⟨u.heap.size,0,none⟩) 1 1)) (u.alloc (.cells (mcs s) 48)):=by
 unfold execOp
 rw [ho]
 simp only [List.map_toArray,List.map_cons,List.map_nil,hx]
 go_simp
def BegI (w wr:World) (S:Se) (N:Nat) (st:List (Int × Int)) (i:Nat):Prop:=∃ v,Wdb wr (w.heap.size+1+1+1) 0 1 v (.slice (some ⟨w.heap.size+1+1,0,none⟩) N N) (.slice none 0 0) (.slice none 0 0)/\OwG KM 48 wr w.heap.size v (nwM st i)/\OwG KC 50 wr w.heap.size (.slice (some ⟨w.heap.size+1+1,0,none⟩) N N) (nwC N)/\Seb wr w.heap.size S/\Wdb wr (w.heap.size+1) 0 0 (.slice none 0 0) (.slice none 0 0) (.slice none 0 0) (.slice none 0 0)/\Still w wr
theorem wbegin_any (N:Nat) (q C R:Int) (s:ByteArray) (lo:Option Addr) (ln lc:Nat) (so:Option Addr) (sn sc:Nat) (po:Option Addr) (pn pc:Nat) (E:Env) (w:World) (B0:Nat) (hst:OwG KT 46 w B0 (.slice so sn sc) E.st) (hN:N<=6) (hNs:N<=E.st.length) :
  Calls Tryz.prog 15 #[.agg #[.int .i64 (N:Int),.int .u64 q,.int .i64 C,.int .i64 R,.string s,.slice lo ln lc,.slice so sn sc,.slice po pn pc]] w fun e w'=>∃ u,e=.returned u/\OwW w' w.heap.size u (nw0 E N)/\Still w w':=by
 have hmk0:=makeG KC (t:=31) Tryz.underlying31 32 infoC N (by omega) (by omega)
 have hmk:=hmk0.1
 have A0:=Still.alloc w (.cells #[.int .i64 (N:Int),.int .u64 q,.int .i64 C,.int .i64 R,.string s,.slice lo ln lc,.slice so sn sc,.slice po pn pc] 68)
 have A1:=Still.alloc (w.alloc (.cells #[.int .i64 (N:Int),.int .u64 q,.int .i64 C,.int .i64 R,.string s,.slice lo ln lc,.slice so sn sc,.slice po pn pc] 68)) (.cells (wdcs 0 0 (.slice none 0 0) (.slice none 0 0) (.slice none 0 0) (.slice none 0 0)) 35)
 have hfresh:=hmk0.2 ((w.alloc (.cells #[.int .i64 (N:Int),.int .u64 q,.int .i64 C,.int .i64 R,.string s,.slice lo ln lc,.slice so sn sc,.slice po pn pc] 68)).alloc (.cells (wdcs 0 0 (.slice none 0 0) (.slice none 0 0) (.slice none 0 0) (.slice none 0 0)) 35))
 obtain ⟨CS,hCS⟩:∃ CS,madeCells (KC.f KC.d).toArray (N*KC.k)=CS:=⟨_,rfl⟩
 rw [hCS] at hfresh
 simp only [hCS] at hmk
 have A2:=Still.alloc ((w.alloc (.cells #[.int .i64 (N:Int),.int .u64 q,.int .i64 C,.int .i64 R,.string s,.slice lo ln lc,.slice so sn sc,.slice po pn pc] 68)).alloc (.cells (wdcs 0 0 (.slice none 0 0) (.slice none 0 0) (.slice none 0 0) (.slice none 0 0)) 35)) (.cells CS 50)
 have A3:=Still.alloc (((w.alloc (.cells #[.int .i64 (N:Int),.int .u64 q,.int .i64 C,.int .i64 R,.string s,.slice lo ln lc,.slice so sn sc,.slice po pn pc] 68)).alloc (.cells (wdcs 0 0 (.slice none 0 0) (.slice none 0 0) (.slice none 0 0) (.slice none 0 0)) 35)).alloc (.cells CS 50)) (.cells (wdcs 0 1 (.slice none 0 0) (.slice (some ⟨w.heap.size+1+1,0,none⟩) N N) (.slice none 0 0) (.slice none 0 0)) 35)
 have s0:Seb (w.alloc (.cells #[.int .i64 (N:Int),.int .u64 q,.int .i64 C,.int .i64 R,.string s,.slice lo ln lc,.slice so sn sc,.slice po pn pc] 68)) w.heap.size ⟨⟨(N:Int),q,C,R,s,.slice lo ln lc⟩,.slice so sn sc,.slice po pn pc,.slice none 0 0⟩:=heap_alloc_new w _
 have z0:=newWd_wb (w.alloc (.cells #[.int .i64 (N:Int),.int .u64 q,.int .i64 C,.int .i64 R,.string s,.slice lo ln lc,.slice so sn sc,.slice po pn pc] 68)) 0 0 (.slice none 0 0) (.slice none 0 0) (.slice none 0 0) (.slice none 0 0)
 have w0:=newWd_wb (((w.alloc (.cells #[.int .i64 (N:Int),.int .u64 q,.int .i64 C,.int .i64 R,.string s,.slice lo ln lc,.slice so sn sc,.slice po pn pc] 68)).alloc (.cells (wdcs 0 0 (.slice none 0 0) (.slice none 0 0) (.slice none 0 0) (.slice none 0 0)) 35)).alloc (.cells CS 50)) 0 1 (.slice none 0 0) (.slice (some ⟨w.heap.size+1+1,0,none⟩) N N) (.slice none 0 0) (.slice none 0 0)
 rw [size_alloc] at z0
 rw [size_alloc,size_alloc,size_alloc] at w0
 rw [size_alloc,size_alloc] at hfresh
 have HS0:Hid (Still w ((((w.alloc (.cells #[.int .i64 (N:Int),.int .u64 q,.int .i64 C,.int .i64 R,.string s,.slice lo ln lc,.slice so sn sc,.slice po pn pc] 68)).alloc (.cells (wdcs 0 0 (.slice none 0 0) (.slice none 0 0) (.slice none 0 0) (.slice none 0 0)) 35)).alloc (.cells CS 50)).alloc (.cells (wdcs 0 1 (.slice none 0 0) (.slice (some ⟨w.heap.size+1+1,0,none⟩) N N) (.slice none 0 0) (.slice none 0 0)) 35))):=hid (((A0.trans A1).trans A2).trans A3)
 have HQ0:Hid (Seb ((((w.alloc (.cells #[.int .i64 (N:Int),.int .u64 q,.int .i64 C,.int .i64 R,.string s,.slice lo ln lc,.slice so sn sc,.slice po pn pc] 68)).alloc (.cells (wdcs 0 0 (.slice none 0 0) (.slice none 0 0) (.slice none 0 0) (.slice none 0 0)) 35)).alloc (.cells CS 50)).alloc (.cells (wdcs 0 1 (.slice none 0 0) (.slice (some ⟨w.heap.size+1+1,0,none⟩) N N) (.slice none 0 0) (.slice none 0 0)) 35)) w.heap.size ⟨⟨(N:Int),q,C,R,s,.slice lo ln lc⟩,.slice so sn sc,.slice po pn pc,.slice none 0 0⟩):=hid (((s0.still A1).still A2).still A3)
 have HZ0:Hid (Wdb ((((w.alloc (.cells #[.int .i64 (N:Int),.int .u64 q,.int .i64 C,.int .i64 R,.string s,.slice lo ln lc,.slice so sn sc,.slice po pn pc] 68)).alloc (.cells (wdcs 0 0 (.slice none 0 0) (.slice none 0 0) (.slice none 0 0) (.slice none 0 0)) 35)).alloc (.cells CS 50)).alloc (.cells (wdcs 0 1 (.slice none 0 0) (.slice (some ⟨w.heap.size+1+1,0,none⟩) N N) (.slice none 0 0) (.slice none 0 0)) 35)) (w.heap.size+1) 0 0 (.slice none 0 0) (.slice none 0 0) (.slice none 0 0) (.slice none 0 0)):=hid ((z0.still A2).still A3)
 have HW0:Hid (Wdb ((((w.alloc (.cells #[.int .i64 (N:Int),.int .u64 q,.int .i64 C,.int .i64 R,.string s,.slice lo ln lc,.slice so sn sc,.slice po pn pc] 68)).alloc (.cells (wdcs 0 0 (.slice none 0 0) (.slice none 0 0) (.slice none 0 0) (.slice none 0 0)) 35)).alloc (.cells CS 50)).alloc (.cells (wdcs 0 1 (.slice none 0 0) (.slice (some ⟨w.heap.size+1+1,0,none⟩) N N) (.slice none 0 0) (.slice none 0 0)) 35)) (w.heap.size+1+1+1) 0 1 (.slice none 0 0) (.slice (some ⟨w.heap.size+1+1,0,none⟩) N N) (.slice none 0 0) (.slice none 0 0)):=hid w0
 have HC0:Hid (OwG KC 50 ((((w.alloc (.cells #[.int .i64 (N:Int),.int .u64 q,.int .i64 C,.int .i64 R,.string s,.slice lo ln lc,.slice so sn sc,.slice po pn pc] 68)).alloc (.cells (wdcs 0 0 (.slice none 0 0) (.slice none 0 0) (.slice none 0 0) (.slice none 0 0)) 35)).alloc (.cells CS 50)).alloc (.cells (wdcs 0 1 (.slice none 0 0) (.slice (some ⟨w.heap.size+1+1,0,none⟩) N N) (.slice none 0 0) (.slice none 0 0)) 35)) w.heap.size (.slice (some ⟨w.heap.size+1+1,0,none⟩) N N) (nwC N)):=hid ((hfresh.still A3).less (by omega))
 clear A0 A1 A2 A3 s0 z0 w0 hfresh hmk0 hCS
 obtain ⟨c0,c1,c2,c3,c4,c5,c6,c7,cf⟩:=HQ0.out.cells
 have e0:((w.alloc (.cells #[.int .i64 (N:Int),.int .u64 q,.int .i64 C,.int .i64 R,.string s,.slice lo ln lc,.slice so sn sc,.slice po pn pc] 68)).alloc (.cells (wdcs 0 0 (.slice none 0 0) (.slice none 0 0) (.slice none 0 0) (.slice none 0 0)) 35)).cell? ⟨w.heap.size,0,none⟩=some (.int .i64 (N:Int)):=by
  have h1:Seb ((w.alloc (.cells #[.int .i64 (N:Int),.int .u64 q,.int .i64 C,.int .i64 R,.string s,.slice lo ln lc,.slice so sn sc,.slice po pn pc] 68)).alloc (.cells (wdcs 0 0 (.slice none 0 0) (.slice none 0 0) (.slice none 0 0) (.slice none 0 0)) 35)) w.heap.size ⟨⟨(N:Int),q,C,R,s,.slice lo ln lc⟩,.slice so sn sc,.slice po pn pc,.slice none 0 0⟩:=(Seb.still (heap_alloc_new w _) (Still.alloc _ _))
  exact h1.cells.1
 have HST:=hid hst
 have HNs:=hid hNs
 clear hst hNs
 obtain ⟨W0,eW0⟩:∃ X,((((w.alloc (.cells #[.int .i64 (N:Int),.int .u64 q,.int .i64 C,.int .i64 R,.string s,.slice lo ln lc,.slice so sn sc,.slice po pn pc] 68)).alloc (.cells (wdcs 0 0 (.slice none 0 0) (.slice none 0 0) (.slice none 0 0) (.slice none 0 0)) 35)).alloc (.cells CS 50)).alloc (.cells (wdcs 0 1 (.slice none 0 0) (.slice (some ⟨w.heap.size+1+1,0,none⟩) N N) (.slice none 0 0) (.slice none 0 0)) 35))=X:=⟨_,rfl⟩
 rw [eW0] at HS0 HQ0 HZ0 HW0 HC0 c0 c1 c2 c3 c4 c5 c6 c7 cf
 go_enter Tryz.func15,Tryz.ntmps15
 go_wp2_with fail
 clear eW0 e0 c0 c1 c2 c3 c4 c5 c6 c7 cf hmk
 go_loopw [13] (fun u wr=>∃ i:Nat,i<=N/\u=.int .i64 (i:Int)/\BegI w wr ⟨⟨(N:Int),q,C,R,s,.slice lo ln lc⟩,.slice so sn sc,.slice po pn pc,.slice none 0 0⟩ N E.st i) (fun u _=>N - (intOf u).toNat)
 case atStart=>exact ⟨0,by omega,rfl,.slice none 0 0,HW0.out,OwG.nil _ _,HC0.out,HQ0.out,HZ0.out,HS0.out⟩
 case round =>
  obtain ⟨i,hi,rfl,v,hw,ho,hc,hq,hz,hs⟩:=hrel
  have HQ:=hid hq
  have HZ:=hid hz
  have HC:=hid hc
  have HS:=hid hs
  by_cases hin:i<N
  ·have hlt:(i:Int)<(N:Int):=by omega
   obtain ⟨ao,cap,rfl,hao⟩:=ho.slice
   rw [nwM_len] at ho hw
   have HW:=hid hw
   have HO:=hid ho
   have hto:=HST.out.still hs
   obtain ⟨gt,cpt,hv,hv1,hv2⟩:=hto.head (by have:=HNs.out; omega)
   simp only [Value.slice.injEq] at hv
   obtain ⟨rfl,hv3,hv4⟩:=hv
   obtain ⟨sl,esl⟩:∃ k,E.st.length=k:=⟨_,rfl⟩
   have hsl:(i:Int)<(sn:Int):=by have:=HNs.out; omega
   have HT:=hid hto
   obtain ⟨x,ex⟩:∃ x,pp E.st i=x:=⟨_,rfl⟩
   obtain ⟨y0,y1⟩:=x
   have EX:=hid ex
   have HSl:Hid (i<E.st.length):=hid (by have:=HNs.out; omega)
   have hmul:IntKind.i64.wrap (4*(i:Int))=4*(i:Int):=by rw [IntKind.wrap_i64]; omega
   have HSt:=hid (fun u=>start8_any y0 y1 (4*(i:Int)) u)
   obtain ⟨m,em⟩:∃ m,startM y0 y1 (4*(i:Int))=m:=⟨_,rfl⟩
   have EM:=hid em
   rw [em] at HSt
   clear hq hz hc hs hw ho hto hv1 hv2 hv3 hv4 esl sl ex em HQ0 HZ0 HW0 HC0 HS0
   go_upto_region 5 with fail
   refine region_laid 10 1 (by kernel_rfl) (by kernel_rfl) (by kernel_rfl) ?_
   apply Exists.intro
   refine And.intro ?_ (And.intro ?_ ?_)
   ·intro u hu
    obtain ⟨d0,d1,d2,d3,d4,d5,d6,d7,df⟩:=(HQ.out.still hu).cells
    obtain ⟨f0,f1,f2,f3,f4,f5,ff⟩:=(HW.out.still hu).cells
    have m1:=Cl.cell d6
    have m2:=Cl.cell f1
    obtain ⟨n0,n1⟩:=owT_cl (HT.out.still hu) (i:=i) HSl.out EX.out
    have HF2:=hid (fun z:Aft u=>HSt.out z.u)
    clear d0 d1 d2 d3 d4 d5 d6 d7 df f0 f1 f2 f3 f4 f5 ff
    have hne:=Aft.here u
    simp only [List.take_succ_cons,List.take_zero]
    repeat (go_big_quiet_step ((first | (go_at_call 32; with_reducible exact Calls.cl (HF2.out _)))))
    exact wpQuiet_nil rfl
   ·intro _ o ho u hu
    obtain rfl:=Option.some.inj ho
    exact ⟨_,_,bs_mv rfl rfl u,Still.alloc u _⟩
   intro w3 h3
   simp only [List.drop_succ_cons,List.drop_zero]
   have A4:=Still.alloc w3 (.cells (mcs m) 48)
   have hA:=h3.trans A4
   have HO4:=hid (HO.out.still hA)
   have HW4:=hid (HW.out.still hA)
   have HQ4:=hid (HQ.out.still hA)
   have HZ4:=hid (HZ.out.still hA)
   have HC4:=hid (HC.out.still hA)
   have HS4:=hid (HS.out.trans hA)
   have HY4:Hid ((w3.alloc (.cells (mcs m) 48)).heap[w3.heap.size]?=some (.cells (mcs m) 48 (0,0))):=hid (heap_alloc_new w3 _)
   have HB4:Hid (w.heap.size<=(w3.alloc (.cells (mcs m) 48)).heap.size):=hid HS4.out.size
   have HL4:Hid (((nwM E.st i).length+1)*104<=140737488355328):=hid (by rw [nwM_len]; omega)
   clear h3 hA A4 HO HW HQ HZ HC HS
   go_wp2_with (
    at_builtin
    refine wpList_appH KM _ rfl _ _ 30 rfl Tryz.underlying30 104 infoM w.heap.size w3.heap.size _ (nwM E.st i) m rfl rfl HO4.out HY4.out HL4.out (by have:=HL4.out; omega) HB4.out ?_
    intro v' w' ho' hf'
    have hT:=HO4.out.frT (ts:=[48]) hf' (Nat.le_refl _) (by simp)
    have HTT:=hid hT
    have HO5:Hid (OwG KM 48 w' w.heap.size v' (nwM E.st i ++ [m])):=hid ho'
    have k1:Wdb w' (w.heap.size+1+1+1) 0 1 _ _ _ _:=hT.kept HW4.out (by decide)
    have HK:=hid k1
    obtain ⟨b0,b1,b2,b3,b4,b5,bf⟩:=k1.cells
    obtain ⟨g',cap',rfl,_,_⟩:=ho'.head (by simp)
    clear hT k1 ho' hf')
   refine ⟨rfl, ?_⟩
   go_wp2_with fail
   go_roundw
   case rel =>
    have ty:=HK.out.ty
    refine ⟨i+1,by omega,by go_num,_,HK.out.s1 _, ?_,(HC4.out.keepT HTT.out (by decide)).setO ty (by decide) _, ?_,Wdb.other (HTT.out.kept HZ4.out (by decide)) (by omega),Fr.setCell (HTT.out.old HS4.out (Nat.le_refl _)) _ _ (.inr (by show w.heap.size<=w.heap.size+1+1+1; omega))⟩
    ·have h0:=HO5.out
     rw [show (nwM E.st i ++ [m]).length=(nwM E.st i).length+1 by simp] at h0
     have h:=h0.setO (o:=1) ty (by decide) (.slice (some ⟨g',0,none⟩) ((nwM E.st i).length+1) cap')
     rw [show nwM E.st (i+1)=nwM E.st i ++ [m] by rw [nwM,EX.out,EM.out]]
     exact h
    ·exact (heap_setCell_other _ _ _ _ (show w.heap.size≠w.heap.size+1+1+1 by omega)).trans (HTT.out.kept HQ4.out (by decide))
   case measure=>first | (simp [intOf]; done) | (simp [intOf]; omega)
  ·have hge:¬ (i:Int)<(N:Int):=by omega
   obtain rfl:i=N:=by omega
   obtain ⟨ao,cap,rfl,hao⟩:=ho.slice
   rw [nwM_len] at ho hw
   have HW:=hid hw
   have HO:=hid ho
   obtain ⟨d0,d1,d2,d3,d4,d5,df⟩:=HW.out.cells
   obtain ⟨z0,z1,z2,z3,z4,z5,zf⟩:=HZ.out.cells
   clear hq hz hc hs hw ho hin hi HQ0 HZ0 HW0 HC0 HS0 hao
   go_wp2_with fail
   have ty:=HZ.out.ty
   refine bodyPost_ret (Wdb.res1 (HZ.out.put 0 1 _ _ _ _) rfl _ rfl) rfl ⟨_,rfl,⟨_,_,_,_,rfl,HO.out.set6 ty (by decide) _ _ _ _ _ _,HC.out.set6 ty (by decide) _ _ _ _ _ _,OwG.nil _ _,OwG.nil _ _⟩,still_set6 HS.out (by omega) _ _ _ _ _ _⟩
end Go.Proofs.YtlibdheihodniaaGreatDoor
