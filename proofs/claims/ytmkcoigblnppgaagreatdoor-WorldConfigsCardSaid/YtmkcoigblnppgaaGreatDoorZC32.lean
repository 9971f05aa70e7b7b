/- Parts of the proof, laid end to end. -/
import Derived.Test.YtmkcoigblnppgaaGreatDoorZC29
import Derived.Test.YtmkcoigblnppgaaGreatDoorZC31
import Derived.Test.YtmkcoigblnppgaaGreatDoorZC22
import Derived.Test.YtmkcoigblnppgaaGreatDoorZC21
namespace Go.Proofs.YtmkcoigblnppgaaGreatDoor
open Go.RowKit
open Pu Gp Ap Vp Np Za Ka Ja Ea Ha Hg Hi
set_option maxRecDepth 100000
theorem a13_of (F:Cf) (hz:F.s.size <= 281474976710656) (v:Int) (hv:ChkV F.C F.R F.s v) (x:World):A13 x F v (stV F.C F.s v) where
 chk u _:=(rmapcheck_any F.C F.R F.s hz u).mono fun e w' ⟨v',he,hv',hs⟩=>by
  rw [chkV_one hv' hv] at he
  exact ⟨he,hs⟩
 sts u _:=(rstarts_any F.C F.R F.s hz u).mono fun e w' ⟨a,v',he,hv',ho,hs⟩=>by
  rw [chkV_one hv' hv] at ho
  exact ⟨a,he,ho,hs⟩
set_option maxHeartbeats 4000000 in
theorem rnew_no (p q C R:Int) (s:ByteArray) (lo:Option Addr) (ln lc:Nat) (st:List (Int × Int)) (l:List Int) (w:World) (v:Int) (A:A13 w ⟨p,q,C,R,s,.slice lo ln lc⟩ v st) (hr:RdI w lo ln lc l) (hc:¬ CfgP p v st.length l) :
  Calls Tryz.prog 11 #[.agg #[.int .i64 p,.int .u64 q,.int .i64 C,.int .i64 R,.string s,.slice lo ln lc]] w fun e w'=>e=.returned (.tuple #[.agg (wdcs 0 0 (.slice none 0 0) (.slice none 0 0) (.slice none 0 0) (.slice none 0 0)),.int .i64 130])/\Still w w':=by
 have A0:=Still.alloc w (.cells #[.int .i64 p,.int .u64 q,.int .i64 C,.int .i64 R,.string s,.slice lo ln lc] 27)
 have A1:=Still.alloc (w.alloc (.cells #[.int .i64 p,.int .u64 q,.int .i64 C,.int .i64 R,.string s,.slice lo ln lc] 27)) (.cells (wdcs 0 0 (.slice none 0 0) (.slice none 0 0) (.slice none 0 0) (.slice none 0 0)) 34)
 have p0:=(newCf_cb w ⟨p,q,C,R,s,.slice lo ln lc⟩).still A1
 have z0:=newWd_wb (w.alloc (.cells #[.int .i64 p,.int .u64 q,.int .i64 C,.int .i64 R,.string s,.slice lo ln lc] 27)) 0 0 (.slice none 0 0) (.slice none 0 0) (.slice none 0 0) (.slice none 0 0)
 rw [size_alloc] at z0
 have HS0:Hid (Still w ((w.alloc (.cells #[.int .i64 p,.int .u64 q,.int .i64 C,.int .i64 R,.string s,.slice lo ln lc] 27)).alloc (.cells (wdcs 0 0 (.slice none 0 0) (.slice none 0 0) (.slice none 0 0) (.slice none 0 0)) 34))):=hid (A0.trans A1)
 have HP0:Hid (Cfb ((w.alloc (.cells #[.int .i64 p,.int .u64 q,.int .i64 C,.int .i64 R,.string s,.slice lo ln lc] 27)).alloc (.cells (wdcs 0 0 (.slice none 0 0) (.slice none 0 0) (.slice none 0 0) (.slice none 0 0)) 34)) w.heap.size ⟨p,q,C,R,s,.slice lo ln lc⟩):=hid p0
 have HZ0:Hid (Wdb ((w.alloc (.cells #[.int .i64 p,.int .u64 q,.int .i64 C,.int .i64 R,.string s,.slice lo ln lc] 27)).alloc (.cells (wdcs 0 0 (.slice none 0 0) (.slice none 0 0) (.slice none 0 0) (.slice none 0 0)) 34)) (w.heap.size + 1) 0 0 (.slice none 0 0) (.slice none 0 0) (.slice none 0 0) (.slice none 0 0)):=hid z0
 have HOp:=hid (rcfg_any ⟨p,q,C,R,s,.slice lo ln lc⟩ v st l lo ln lc rfl ((w.alloc (.cells #[.int .i64 p,.int .u64 q,.int .i64 C,.int .i64 R,.string s,.slice lo ln lc] 27)).alloc (.cells (wdcs 0 0 (.slice none 0 0) (.slice none 0 0) (.slice none 0 0) (.slice none 0 0)) 34)) (A.still (A0.trans A1)) (hr.still (A0.trans A1)))
 rw [cfgE_no (by exact hc)] at HOp
 clear A hr hc A0 A1 p0 z0
 obtain ⟨W0,eW0⟩:∃ X,((w.alloc (.cells #[.int .i64 p,.int .u64 q,.int .i64 C,.int .i64 R,.string s,.slice lo ln lc] 27)).alloc (.cells (wdcs 0 0 (.slice none 0 0) (.slice none 0 0) (.slice none 0 0) (.slice none 0 0)) 34))=X:=⟨_,rfl⟩
 rw [eW0] at HS0 HP0 HZ0 HOp
 obtain ⟨c0,c1,c2,c3,c4,c5,cf⟩:=HP0.out.cells
 dsimp only at c0 c1 c2 c3 c4 c5
 go_enter Tryz.func11,Tryz.ntmps11
 go_wp2_with fail
 refine HOp.out.mono ?_
 rintro e w1 ⟨rfl,h1⟩
 have HS1:=hid (HS0.out.trans h1)
 have HZ1:=hid (HZ0.out.still h1)
 clear eW0 HOp c0 c1 c2 c3 c4 c5 cf h1 HS0 HP0 HZ0
 obtain ⟨z0,z1,z2,z3,z4,z5,zf⟩:=HZ1.out.cells
 go_wp2_with fail
 refine bodyPost_ret (Wdb.res2 (HZ1.out.put 0 0 _ _ _ _) rfl _ _ rfl rfl) rfl ⟨rfl,still_set6 HS1.out (by omega) _ _ _ _ _ _⟩
def NewI (w wr:World) (b5:Nat) (F:Cf) (so:Value) (st:List (Int × Int)) (i:Nat):Prop:=∃ va vc,Wdb wr b5 0 1 va vc (.slice none 0 0) (.slice none 0 0)/\OwG KM 56 wr w.heap.size va (nwM st i)/\OwG KC 58 wr w.heap.size vc (nwC i)/\OwG KT 54 wr w.heap.size so st/\Cfb wr w.heap.size F/\Wdb wr (w.heap.size + 1) 0 0 (.slice none 0 0) (.slice none 0 0) (.slice none 0 0) (.slice none 0 0)/\Still w wr
set_option maxHeartbeats 8000000 in
theorem rnew_yes (N : Nat) (q C R : Int) (s : ByteArray) (lo : Option Addr) (ln lc : Nat) (E : Env) (l : List Int) (w : World) (v : Int) (A : A13 w ⟨(N : Int), q, C, R, s, .slice lo ln lc⟩ v E.st) (hr : RdI w lo ln lc l) (hc : CfgP (N : Int) v E.st.length l) :
    Calls Tryz.prog 11 #[.agg #[.int .i64 (N:Int),.int .u64 q,.int .i64 C,.int .i64 R,.string s,.slice lo ln lc]] w fun e w'=>∃ u,e=.returned (.tuple #[u,.int .i64 0])/\OwW w' w.heap.size u (nw0 E N)/\Still w w':=by
  have A0:=Still.alloc w (.cells #[.int .i64 (N:Int),.int .u64 q,.int .i64 C,.int .i64 R,.string s,.slice lo ln lc] 27)
  have A1:=Still.alloc (w.alloc (.cells #[.int .i64 (N:Int),.int .u64 q,.int .i64 C,.int .i64 R,.string s,.slice lo ln lc] 27)) (.cells (wdcs 0 0 (.slice none 0 0) (.slice none 0 0) (.slice none 0 0) (.slice none 0 0)) 34)
  have p0:=(newCf_cb w ⟨(N:Int),q,C,R,s,.slice lo ln lc⟩).still A1
  have z0:=newWd_wb (w.alloc (.cells #[.int .i64 (N:Int),.int .u64 q,.int .i64 C,.int .i64 R,.string s,.slice lo ln lc] 27)) 0 0 (.slice none 0 0) (.slice none 0 0) (.slice none 0 0) (.slice none 0 0)
  rw [size_alloc] at z0
  have HS0:Hid (Still w ((w.alloc (.cells #[.int .i64 (N:Int),.int .u64 q,.int .i64 C,.int .i64 R,.string s,.slice lo ln lc] 27)).alloc (.cells (wdcs 0 0 (.slice none 0 0) (.slice none 0 0) (.slice none 0 0) (.slice none 0 0)) 34))):=hid (A0.trans A1)
  have HP0:Hid (Cfb ((w.alloc (.cells #[.int .i64 (N:Int),.int .u64 q,.int .i64 C,.int .i64 R,.string s,.slice lo ln lc] 27)).alloc (.cells (wdcs 0 0 (.slice none 0 0) (.slice none 0 0) (.slice none 0 0) (.slice none 0 0)) 34)) w.heap.size ⟨(N:Int),q,C,R,s,.slice lo ln lc⟩):=hid p0
  have HZ0:Hid (Wdb ((w.alloc (.cells #[.int .i64 (N:Int),.int .u64 q,.int .i64 C,.int .i64 R,.string s,.slice lo ln lc] 27)).alloc (.cells (wdcs 0 0 (.slice none 0 0) (.slice none 0 0) (.slice none 0 0) (.slice none 0 0)) 34)) (w.heap.size + 1) 0 0 (.slice none 0 0) (.slice none 0 0) (.slice none 0 0) (.slice none 0 0)):=hid z0
  have HOp:=hid (rcfg_any ⟨(N:Int),q,C,R,s,.slice lo ln lc⟩ v E.st l lo ln lc rfl ((w.alloc (.cells #[.int .i64 (N:Int),.int .u64 q,.int .i64 C,.int .i64 R,.string s,.slice lo ln lc] 27)).alloc (.cells (wdcs 0 0 (.slice none 0 0) (.slice none 0 0) (.slice none 0 0) (.slice none 0 0)) 34)) (A.still (A0.trans A1)) (hr.still (A0.trans A1)))
  rw [cfgE_yes (by exact hc)] at HOp
  have HA:=hid A
  have HN:=hid (show N <= 6/\N <= E.st.length by have:=hc.2.1; have:=hc.2.2.2.1; omega)
  clear A hr hc A0 A1 p0 z0
  obtain ⟨W0,eW0⟩:∃ X,((w.alloc (.cells #[.int .i64 (N:Int),.int .u64 q,.int .i64 C,.int .i64 R,.string s,.slice lo ln lc] 27)).alloc (.cells (wdcs 0 0 (.slice none 0 0) (.slice none 0 0) (.slice none 0 0) (.slice none 0 0)) 34))=X:=⟨_,rfl⟩
  rw [eW0] at HS0 HP0 HZ0 HOp
  obtain ⟨c0,c1,c2,c3,c4,c5,cf⟩:=HP0.out.cells
  dsimp only at c0 c1 c2 c3 c4 c5
  go_enter Tryz.func11,Tryz.ntmps11
  go_wp2_with fail
  refine HOp.out.mono ?_
  rintro e w1 ⟨rfl,h1⟩
  have A2:=Still.alloc w1 (.cells (wdcs 0 1 (.slice none 0 0) (.slice none 0 0) (.slice none 0 0) (.slice none 0 0)) 34)
  have h2:=h1.trans A2
  have HS2:=hid (HS0.out.trans h2)
  have HZ2:=hid (HZ0.out.still h2)
  have HP2:=hid (HP0.out.still h2)
  have HW2:Hid (Wdb (w1.alloc (.cells (wdcs 0 1 (.slice none 0 0) (.slice none 0 0) (.slice none 0 0) (.slice none 0 0)) 34)) w1.heap.size 0 1 (.slice none 0 0) (.slice none 0 0) (.slice none 0 0) (.slice none 0 0)):=hid (newWd_wb w1 0 1 (.slice none 0 0) (.slice none 0 0) (.slice none 0 0) (.slice none 0 0))
  have HB:=hid (show w.heap.size + 1 < w1.heap.size from Nat.lt_of_lt_of_le (block_lt HZ0.out) h1.size)
  obtain ⟨W2,eW2⟩:∃ X,w1.alloc (.cells (wdcs 0 1 (.slice none 0 0) (.slice none 0 0) (.slice none 0 0) (.slice none 0 0)) 34)=X:=⟨_,rfl⟩
  rw [eW2] at HS2 HZ2 HP2 HW2
  obtain ⟨b5,eb5⟩:∃ k,w1.heap.size=k:=⟨_,rfl⟩
  rw [eb5] at HW2 HB
  clear eW0 HOp c0 c1 c2 c3 c4 c5 cf h1 h2 A2 HS0 HP0 HZ0
  obtain ⟨c0,c1,c2,c3,c4,c5,cf⟩:=HP2.out.cells
  dsimp only at c0 c1 c2 c3 c4 c5
  go_wp2_with fail
  refine (HA.out.sts W2 HS2.out).mono ?_
  rintro e w3 ⟨vs,rfl,ho3,h3⟩
  obtain ⟨so,sc,rfl,_⟩:=ho3.slice
  have HT3:=hid (ho3.less HS2.out.size)
  have HS3:=hid (HS2.out.trans h3)
  have HZ3:=hid (HZ2.out.still h3)
  have HP3:=hid (HP2.out.still h3)
  have HW3:=hid (HW2.out.still h3)
  obtain ⟨sn,esn⟩:∃ k,E.st.length=k:=⟨_,rfl⟩
  rw [esn] at HT3 ⊢
  have HSn:=hid esn
  clear eW2 eb5 ho3 h3 c0 c1 c2 c3 c4 c5 cf HS2 HZ2 HP2 HW2 esn HA
  go_wp2_with fail
  go_loopw [7] (fun u wr=>∃ i:Nat,i <= N/\u=.int .i64 (i:Int)/\NewI w wr b5 ⟨(N:Int),q,C,R,s,.slice lo ln lc⟩ (.slice so sn sc) E.st i) (fun u _=>N - (intOf u).toNat)
  case atStart=>exact ⟨0,by omega,rfl,.slice none 0 0,.slice none 0 0,HW3.out,OwG.nil _ _,OwG.nil _ _,HT3.out,HP3.out,HZ3.out,HS3.out⟩
  case round =>
    clear HT3 HS3 HZ3 HP3 HW3
    obtain ⟨i,hi,rfl,va,vc,hw,ho,hcs,hto,hp,hz,hs⟩:=hrel
    obtain ⟨c0,c1,c2,c3,c4,c5,cf⟩:=hp.cells
    dsimp only at c0 c1 c2 c3 c4 c5
    obtain ⟨ao,cap,rfl,_⟩:=ho.slice
    obtain ⟨bo,bcap,rfl,_⟩:=hcs.slice
    rw [nwM_len] at ho hw
    rw [show (nwC i).length=i by simp [nwC]] at hcs hw
    have HW:=hid hw
    have HO:=hid ho
    have HC:=hid hcs
    have HT:=hid hto
    have HP:=hid hp
    have HZ:=hid hz
    have HS:=hid hs
    by_cases hin:i < N
    · have hlt:(i:Int) < (N:Int):=by omega
      obtain ⟨gt,cpt,hv,hv1,hv2⟩:=hto.head (by have:=HN.out; omega)
      simp only [Value.slice.injEq] at hv
      obtain ⟨rfl,hv3,hv4⟩:=hv
      have hsl:(i:Int) < (sn:Int):=by have:=HN.out; have:=HSn.out; omega
      obtain ⟨n0,n1,nf⟩:=owT hto (i:=i) (by have:=HN.out; omega)
      obtain ⟨x,ex⟩:∃ x,pp E.st i=x:=⟨_,rfl⟩
      obtain ⟨y0,y1⟩:=x
      have EX:=hid ex
      rw [ex] at n0 n1
      dsimp only at n0 n1
      have hi6:i < 6:=by have:=HN.out; omega
      have hmul:IntKind.i64.wrap (4 * (i:Int))=4 * (i:Int):=by rw [IntKind.wrap_i64]; omega
      have HSt:=hid (fun u=>rstart_any y0 y1 (4 * (i:Int)) u)
      obtain ⟨m,em⟩:∃ m,startM y0 y1 (4 * (i:Int))=m:=⟨_,rfl⟩
      have EM:=hid em
      rw [em] at HSt
      clear hw ho hcs hto hp hz hs hv1 hv2 hv3 hv4 ex em c1 c2 c3 c4 c5
      go_wp2_with fail
      refine (HSt.out wr).mono ?_
      rintro e w4 ⟨rfl,h4⟩
      have A5:=Still.alloc w4 (.cells (mcs m) 56)
      have A6:=Still.alloc (w4.alloc (.cells (mcs m) 56)) (.cells (mcs m) 56)
      have hA:=(h4.trans A5).trans A6
      have HO4:=hid (HO.out.still hA)
      have HC4:=hid (HC.out.still hA)
      have HT4:=hid (HT.out.still hA)
      have HW4:=hid (HW.out.still hA)
      have HP4:=hid (HP.out.still hA)
      have HZ4:=hid (HZ.out.still hA)
      have HS4:=hid (HS.out.trans hA)
      have mm0:=(show Mb (w4.alloc (.cells (mcs m) 56)) w4.heap.size m from heap_alloc_new w4 _)
      have HM:=hid mm0
      have hW4a:=(HW.out.still (h4.trans A5))
      have HY4:Hid (((w4.alloc (.cells (mcs m) 56)).alloc (.cells (mcs m) 56)).heap[w4.heap.size + 1]?=some (.cells (mcs m) 56 (0,0))):=hid (by
        have h:=heap_alloc_new (w4.alloc (.cells (mcs m) 56)) (.cells (mcs m) 56)
        rw [size_alloc] at h
        exact h)
      have HB4:Hid (w.heap.size <= ((w4.alloc (.cells (mcs m) 56)).alloc (.cells (mcs m) 56)).heap.size):=hid HS4.out.size
      have HL4:Hid (((nwM E.st i).length + 1) * 104 <= 140737488355328):=hid (by rw [nwM_len]; omega)
      obtain ⟨d0,d1,d2,d3,d4,d5,df⟩:=hW4a.cells
      clear h4 hA A5 A6 HO HC HT HW HP HZ HS hW4a mm0 c0 cf n0 n1 nf
      obtain ⟨e0,e1,e2,e3,e4,e5,e6,e7,e8,e9,e10,e11,e12,ef⟩:=HM.out.cells
      go_wp2_with (first
        | (at_builtin
           refine wpList_appH KM _ rfl _ _ 29 rfl Tryz.underlying29 104 infoM w.heap.size (w4.heap.size + 1) _ (nwM E.st i) m rfl rfl HO4.out HY4.out HL4.out (by have:=HL4.out; omega) HB4.out ?_
           intro v' w' ho' hf'
           have hT:=HO4.out.frT (ts:=[56]) hf' (Nat.le_refl _) (by simp)
           have k1:Wdb w' b5 0 1 _ _ _ _:=hT.kept HW4.out (by decide)
           obtain ⟨g',cap',rfl,_,_⟩:=ho'.head (by simp)
           have el:(nwM E.st i ++ [m]).length=i + 1:=by simp [nwM_len]
           rw [el] at ho' ⊢
           have ty:=k1.ty
           have hb:=HB.out
           have HK5:=hid (k1.s1 (.slice (some ⟨g',0,none⟩) (i + 1) cap'))
           have HO5:=hid (ho'.setO (o:=1) ty (by decide) (.slice (some ⟨g',0,none⟩) (i + 1) cap'))
           have HC5:=hid ((HC4.out.keepT hT (by decide)).setO (o:=1) ty (by decide) (.slice (some ⟨g',0,none⟩) (i + 1) cap'))
           have HT5:=hid ((HT4.out.keepT hT (by decide)).setO (o:=1) ty (by decide) (.slice (some ⟨g',0,none⟩) (i + 1) cap'))
           have HP5:Hid (Cfb (w'.setCell ⟨b5,1,none⟩ (.slice (some ⟨g',0,none⟩) (i + 1) cap')) w.heap.size ⟨(N:Int),q,C,R,s,.slice lo ln lc⟩):=hid ((heap_setCell_other _ _ _ _ (show w.heap.size ≠ b5 by omega)).trans (hT.kept HP4.out (by decide)))
           have HZ5:Hid (Wdb (w'.setCell ⟨b5,1,none⟩ (.slice (some ⟨g',0,none⟩) (i + 1) cap')) (w.heap.size + 1) 0 0 (.slice none 0 0) (.slice none 0 0) (.slice none 0 0) (.slice none 0 0)):=hid (Wdb.other (hT.kept HZ4.out (by decide)) (show w.heap.size + 1 ≠ b5 by omega))
           have HS5:Hid (Still w (w'.setCell ⟨b5,1,none⟩ (.slice (some ⟨g',0,none⟩) (i + 1) cap'))):=hid (Fr.setCell (hT.old HS4.out (Nat.le_refl _)) _ _ (.inr (show w.heap.size <= b5 by omega)))
           obtain ⟨a0,a1,a2,a3,a4,a5,af⟩:=k1.cells
           obtain ⟨W5,eW5⟩:∃ X,w'.setCell ⟨b5,1,none⟩ (.slice (some ⟨g',0,none⟩) (i + 1) cap')=X:=⟨_,rfl⟩
           rw [eW5] at HK5 HO5 HC5 HT5 HP5 HZ5 HS5
           have HY5:Hid ((W5.alloc (.cells (ccs zC) 58)).heap[W5.heap.size]?=some (.cells (ccs zC) 58 (0,0))):=hid (heap_alloc_new W5 _)
           obtain ⟨f0,f1,f2,f3,f4,f5,ff⟩:=HK5.out.cells
           clear ho' hf' hT k1 el ty hb HO4 HC4 HT4 HW4 HP4 HZ4 HS4 HM HY4 HB4 HL4 d0 d1 d2 d3 d4 d5 df e0 e1 e2 e3 e4 e5 e6 e7 e8 e9 e10 e11 e12 ef)
        | (at_builtin
           refine wpList_appH KC _ rfl _ _ 30 rfl Tryz.underlying30 32 infoC w.heap.size W5.heap.size _ (nwC i) zC rfl rfl (HC5.out.still (Still.alloc W5 _)) HY5.out (by rw [show (nwC i).length=i by simp [nwC]]; omega) (by rw [show (nwC i).length=i by simp [nwC]]; omega) (by have:=HS5.out.size; simp; omega) ?_
           intro v2 w2 ho2 hf2
           have hT2:=(HC5.out.still (Still.alloc W5 _)).frT (ts:=[58]) hf2 (Nat.le_refl _) (by simp)
           have k2:Wdb w2 b5 0 1 _ _ _ _:=hT2.kept (HK5.out.still (Still.alloc W5 (.cells (ccs zC) 58))) (by decide)
           obtain ⟨g2,cap2,rfl,_,_⟩:=ho2.head (by simp)
           have el:(nwC i ++ [zC]).length=i + 1:=by simp [nwC]
           rw [el] at ho2 ⊢
           have ty:=k2.ty
           have hb:=HB.out
           have HK6:=hid (k2.s2 (.slice (some ⟨g2,0,none⟩) (i + 1) cap2))
           have HC6:=hid (ho2.setO (o:=2) ty (by decide) (.slice (some ⟨g2,0,none⟩) (i + 1) cap2))
           have HO6:=hid (((HO5.out.still (Still.alloc W5 _)).keepT hT2 (by decide)).setO (o:=2) ty (by decide) (.slice (some ⟨g2,0,none⟩) (i + 1) cap2))
           have HT6:=hid (((HT5.out.still (Still.alloc W5 _)).keepT hT2 (by decide)).setO (o:=2) ty (by decide) (.slice (some ⟨g2,0,none⟩) (i + 1) cap2))
           have HP6:Hid (Cfb (w2.setCell ⟨b5,2,none⟩ (.slice (some ⟨g2,0,none⟩) (i + 1) cap2)) w.heap.size ⟨(N:Int),q,C,R,s,.slice lo ln lc⟩):=hid ((heap_setCell_other _ _ _ _ (show w.heap.size ≠ b5 by omega)).trans (hT2.kept (HP5.out.still (Still.alloc W5 _)) (by decide)))
           have HZ6:Hid (Wdb (w2.setCell ⟨b5,2,none⟩ (.slice (some ⟨g2,0,none⟩) (i + 1) cap2)) (w.heap.size + 1) 0 0 (.slice none 0 0) (.slice none 0 0) (.slice none 0 0) (.slice none 0 0)):=hid (Wdb.other (hT2.kept (HZ5.out.still (Still.alloc W5 _)) (by decide)) (show w.heap.size + 1 ≠ b5 by omega))
           have HS6:Hid (Still w (w2.setCell ⟨b5,2,none⟩ (.slice (some ⟨g2,0,none⟩) (i + 1) cap2))):=hid (Fr.setCell (hT2.old (HS5.out.trans (Still.alloc W5 _)) (Nat.le_refl _)) _ _ (.inr (show w.heap.size <= b5 by omega)))
           obtain ⟨t0,t1,t2,t3,t4,t5,tf⟩:=k2.cells
           clear ho2 hf2 hT2 k2 el ty hb eW5 HK5 HO5 HC5 HT5 HP5 HZ5 HS5 HY5 a0 a1 a2 a3 a4 a5 af f0 f1 f2 f3 f4 f5 ff))
      go_roundw
      case rel =>
        refine ⟨i + 1,by omega,by go_num,_,_,HK6.out, ?_, ?_,HT6.out,HP6.out,HZ6.out,HS6.out⟩
        · rw [show nwM E.st (i + 1)=nwM E.st i ++ [m] by rw [nwM,EX.out,EM.out]]
          exact HO6.out
        · rw [nwC_next]
          exact HC6.out
      case measure=>first | (simp [intOf]; done) | (simp [intOf]; omega)
    · have hge:¬ (i:Int) < (N:Int):=by omega
      obtain rfl:i=N:=by omega
      obtain ⟨d0,d1,d2,d3,d4,d5,df⟩:=HW.out.cells
      obtain ⟨z0,z1,z2,z3,z4,z5,zf⟩:=HZ.out.cells
      clear hw ho hcs hto hp hz hs hin hi
      go_wp2_with fail
      have ty:=HZ.out.ty
      refine bodyPost_ret (Wdb.res2 (HZ.out.put 0 1 _ _ _ _) rfl _ _ rfl rfl) rfl ⟨_,rfl,⟨_,_,_,_,rfl,HO.out.set6 ty (by decide) _ _ _ _ _ _,HC.out.set6 ty (by decide) _ _ _ _ _ _,OwG.nil _ _,OwG.nil _ _⟩,still_set6 HS.out (by omega) _ _ _ _ _ _⟩
end Go.Proofs.YtmkcoigblnppgaaGreatDoor
namespace Go.Proofs.YtmkcoigblnppgaaGreatDoor
open Go.RowKit
open Pu Gp Ap Vp Np Za Ka Ja Ea Ha Hg Hi
set_option maxRecDepth 100000
set_option maxHeartbeats 8000000 in
theorem configs_no (p q C R:Int) (s:ByteArray) (lo:Option Addr) (ln lc:Nat) (l:List Int) (hz:s.size <= 281474976710656) (v0:Int) (hv0:ChkV C R s v0) (hc:¬ CfgP p v0 (stV C s v0).length l) (w:World) (ht:Tab w) (hd:DTab w) (hr:RdI w lo ln lc l) :
  Calls Tryz.prog 3 #[.agg #[.int .i64 p,.int .u64 q,.int .i64 C,.int .i64 R,.string s,.slice lo ln lc]] w fun e w'=>e=.returned (.bool true)/\Still w w':=by
 have HN1:=hid (fun u (hu:Still w u)=>wnew_no p q C R s lo ln lc (envM q C R s v0) l u v0 (q13_of ⟨p,q,C,R,s,.slice lo ln lc⟩ v0 hv0 u) (hr.still hu) hc)
 have HR1:=hid (fun u (hu:Still w u)=>rnew_no p q C R s lo ln lc (stV C s v0) l u v0 (a13_of ⟨p,q,C,R,s,.slice lo ln lc⟩ hz v0 hv0 u) (hr.still hu) hc)
 have HC1:=hid (fun u (hu:Still w u)=>wcfg_no p q C R s lo ln lc (envM q C R s v0) l u v0 (q13_of ⟨p,q,C,R,s,.slice lo ln lc⟩ v0 hv0 u) (hr.still hu) hc)
 have HC2:Hid (∀ u,Still w u->Calls Tryz.prog 15 #[.agg #[.int .i64 p,.int .u64 q,.int .i64 C,.int .i64 R,.string s,.slice lo ln lc]] u fun e w'=>e=.returned (.int .i64 130)/\Still u w'):=hid (fun u hu=>by
  have h:=rcfg_any ⟨p,q,C,R,s,.slice lo ln lc⟩ v0 (stV C s v0) l lo ln lc rfl u (a13_of ⟨p,q,C,R,s,.slice lo ln lc⟩ hz v0 hv0 u) (hr.still hu)
  rw [cfgE_no (by exact hc)] at h
  exact h)
 have HT:=hid ht
 have HDt:=hid hd
 have A0:=Still.alloc w (.cells #[.int .i64 p,.int .u64 q,.int .i64 C,.int .i64 R,.string s,.slice lo ln lc] 27)
 have HS0:Hid (Still w (w.alloc (.cells #[.int .i64 p,.int .u64 q,.int .i64 C,.int .i64 R,.string s,.slice lo ln lc] 27))):=hid A0
 have HP0:Hid (Cfb (w.alloc (.cells #[.int .i64 p,.int .u64 q,.int .i64 C,.int .i64 R,.string s,.slice lo ln lc] 27)) w.heap.size ⟨p,q,C,R,s,.slice lo ln lc⟩):=hid (newCf_cb w ⟨p,q,C,R,s,.slice lo ln lc⟩)
 clear A0 hr hc hv0 hz ht hd
 go_enter Tryz.func3,Tryz.ntmps3
 go_wp2_with fail
 refine (awake13_any _ (HT.out.still HS0.out) (HDt.out.still HS0.out)).mono ?_
 rintro e w1 ⟨rfl,h1⟩
 have HS1:=hid (HS0.out.trans h1)
 have HP1:=hid (HP0.out.still h1)
 clear h1 HS0 HP0
 obtain ⟨c0,c1,c2,c3,c4,c5,cf⟩:=HP1.out.cells
 dsimp only at c0 c1 c2 c3 c4 c5
 go_wp2_with fail
 refine (HN1.out w1 HS1.out).mono ?_
 rintro e w2 ⟨rfl,h2⟩
 have A2:=Still.alloc w2 (.cells (wdcs 0 0 (.slice none 0 0) (.slice none 0 0) (.slice none 0 0) (.slice none 0 0)) 34)
 have h3:=h2.trans A2
 have HS3:=hid (HS1.out.trans h3)
 have HP3:=hid (HP1.out.still h3)
 have HX3:=hid (newWd_wb w2 0 0 (.slice none 0 0) (.slice none 0 0) (.slice none 0 0) (.slice none 0 0))
 clear c0 c1 c2 c3 c4 c5 cf h2 A2 h3 HS1 HP1
 obtain ⟨c0,c1,c2,c3,c4,c5,cf⟩:=HP3.out.cells
 dsimp only at c0 c1 c2 c3 c4 c5
 go_wp2_with fail
 refine (HR1.out _ HS3.out).mono ?_
 rintro e w4 ⟨rfl,h4⟩
 have A4:=Still.alloc w4 (.cells (wdcs 0 0 (.slice none 0 0) (.slice none 0 0) (.slice none 0 0) (.slice none 0 0)) 34)
 have h5:=h4.trans A4
 have HS5:=hid (HS3.out.trans h5)
 have HP5:=hid (HP3.out.still h5)
 have HX5:=hid (HX3.out.still h5)
 have HY5:=hid (newWd_wb w4 0 0 (.slice none 0 0) (.slice none 0 0) (.slice none 0 0) (.slice none 0 0))
 clear c0 c1 c2 c3 c4 c5 cf h4 A4 h5 HS3 HP3 HX3
 obtain ⟨d0,d1,d2,d3,d4,d5,df⟩:=HX5.out.cells
 obtain ⟨f0,f1,f2,f3,f4,f5,ff⟩:=HY5.out.cells
 go_wp2_with fail
 refine (rsame_any zWd _ _ _ (rd_zWd _) (rd_zWd _)).mono ?_
 rintro e w6 ⟨rfl,h6⟩
 have HS6:=hid (HS5.out.trans h6)
 have HP6:=hid (HP5.out.still h6)
 have HX6:=hid (HX5.out.still h6)
 have HY6:=hid (HY5.out.still h6)
 clear h6 d0 d1 d2 d3 d4 d5 df f0 f1 f2 f3 f4 f5 ff HS5 HP5 HX5 HY5
 obtain ⟨d0,d1,d2,d3,d4,d5,df⟩:=HX6.out.cells
 go_wp2_with fail
 refine (spoil_any 0 0 none none none none 0 0 0 0 0 0 [] [] 0 0 w6 rfl rfl (OwG.nil _ _) (OwG.nil _ _) (by omega) (by omega) (fun k h=>by cases h) (fun k h=>by cases h)).mono ?_
 rintro e w7 ⟨rfl,h7⟩
 have s7:Still w6 w7:=Fr.mono h7 (fun k _ hk=>absurd hk.2 (Nat.not_lt_zero k))
 have HS7:=hid (HS6.out.trans s7)
 have HP7:=hid (HP6.out.still s7)
 have HY7:=hid (HY6.out.still s7)
 clear h7 s7 d0 d1 d2 d3 d4 d5 df HS6 HP6 HX6 HY6
 obtain ⟨c0,c1,c2,c3,c4,c5,cf⟩:=HP7.out.cells
 dsimp only at c0 c1 c2 c3 c4 c5
 go_wp2_with fail
 refine (HN1.out w7 HS7.out).mono ?_
 rintro e w8 ⟨rfl,h8⟩
 have A8:=Still.alloc w8 (.cells (wdcs 0 0 (.slice none 0 0) (.slice none 0 0) (.slice none 0 0) (.slice none 0 0)) 34)
 have h9:=h8.trans A8
 have HS9:=hid (HS7.out.trans h9)
 have HP9:=hid (HP7.out.still h9)
 have HY9:=hid (HY7.out.still h9)
 have HX9:=hid (newWd_wb w8 0 0 (.slice none 0 0) (.slice none 0 0) (.slice none 0 0) (.slice none 0 0))
 clear c0 c1 c2 c3 c4 c5 cf h8 A8 h9 HS7 HP7 HY7
 obtain ⟨d0,d1,d2,d3,d4,d5,df⟩:=HX9.out.cells
 obtain ⟨f0,f1,f2,f3,f4,f5,ff⟩:=HY9.out.cells
 go_wp2_with fail
 refine (rsame_any zWd _ _ _ (rd_zWd _) (rd_zWd _)).mono ?_
 rintro e wa ⟨rfl,ha⟩
 have HSa:=hid (HS9.out.trans ha)
 have HPa:=hid (HP9.out.still ha)
 clear ha d0 d1 d2 d3 d4 d5 df f0 f1 f2 f3 f4 f5 ff HS9 HP9 HX9 HY9
 obtain ⟨c0,c1,c2,c3,c4,c5,cf⟩:=HPa.out.cells
 dsimp only at c0 c1 c2 c3 c4 c5
 have l0:=Cl.cell c0
 have l1:=Cl.cell c1
 have l2:=Cl.cell c2
 have l3:=Cl.cell c3
 have l4:=Cl.cell c4
 have l5:=Cl.cell c5
 have HCa:=hid (fun z:Aft wa=>HC1.out z.u (HSa.out.trans z.s))
 have HCb:=hid (fun z:Aft wa=>HC2.out z.u (HSa.out.trans z.s))
 have hne:=Aft.here wa
 clear c0 c1 c2 c3 c4 c5 cf
 go_upto_region 8 with fail
 refine region_all (by kernel_rfl) (by kernel_rfl) ?_
 repeat (go_big_quiet_step ((first | (go_at_call 14; with_reducible exact Calls.cl (HCa.out _)) | (go_at_call 15; with_reducible exact Calls.cl (HCb.out _)))))
 refine wpQuiet_nil ?_
 intro wz hzz
 have HSz:=hid (HSa.out.trans hzz)
 clear hzz l0 l1 l2 l3 l4 l5 hne
 go_wp2_with fail
 go_ret
 exact ⟨rfl,HSz.out⟩
set_option maxHeartbeats 8000000 in
theorem configs_yes (N:Nat) (q C R:Int) (s:ByteArray) (lo:Option Addr) (ln lc:Nat) (l:List Int) (hz:s.size <= 281474976710656) (v0:Int) (hv0:ChkV C R s v0) (hc:CfgP (N:Int) v0 (stV C s v0).length l) (w:World) (ht:Tab w) (hd:DTab w) (hr:RdI w lo ln lc l) :
  Calls Tryz.prog 3 #[.agg #[.int .i64 (N:Int),.int .u64 q,.int .i64 C,.int .i64 R,.string s,.slice lo ln lc]] w fun e w'=>e=.returned (.bool true)/\Still w w':=by
 have hN6:N <= 6:=by have:=hc.2.1; omega
 have HN1:=hid (fun u (hu:Still w u)=>wnew_yes N q C R s lo ln lc (envM q C R s v0) l u v0 (q13_of ⟨(N:Int),q,C,R,s,.slice lo ln lc⟩ v0 hv0 u) (hr.still hu) hc)
 have HR1:=hid (fun u (hu:Still w u)=>rnew_yes N q C R s lo ln lc (envM q C R s v0) l u v0 (a13_of ⟨(N:Int),q,C,R,s,.slice lo ln lc⟩ hz v0 hv0 u) (hr.still hu) hc)
 have HC1:=hid (fun u (hu:Still w u)=>wcfg_yes N q C R s lo ln lc (envM q C R s v0) l u v0 (q13_of ⟨(N:Int),q,C,R,s,.slice lo ln lc⟩ v0 hv0 u) (hr.still hu) hc)
 have HC2:Hid (∀ u,Still w u->Calls Tryz.prog 15 #[.agg #[.int .i64 (N:Int),.int .u64 q,.int .i64 C,.int .i64 R,.string s,.slice lo ln lc]] u fun e w'=>e=.returned (.int .i64 0)/\Still u w'):=hid (fun u hu=>by
  have h:=rcfg_any ⟨(N:Int),q,C,R,s,.slice lo ln lc⟩ v0 (stV C s v0) l lo ln lc rfl u (a13_of ⟨(N:Int),q,C,R,s,.slice lo ln lc⟩ hz v0 hv0 u) (hr.still hu)
  rw [cfgE_yes (by exact hc)] at h
  exact h)
 obtain ⟨E,eE⟩:∃ E,envM q C R s v0=E:=⟨_,rfl⟩
 rw [eE] at HN1 HR1
 clear eE
 obtain ⟨Wn,eWn⟩:∃ W,nw0 E N=W:=⟨_,rfl⟩
 have HE:Hid (Wn.ms.length=N/\Wn.cs.length=N/\Wn.hs.length=0/\Wn.ks.length=0/\Wn.fr=0/\Wn.nx=1):=hid (by
  rw [<- eWn]
  exact ⟨nwM_len _ _,by simp [nw0,nwC],rfl,rfl,rfl,rfl⟩)
 rw [eWn] at HN1 HR1
 clear eWn
 have HT:=hid ht
 have HDt:=hid hd
 have A0:=Still.alloc w (.cells #[.int .i64 (N:Int),.int .u64 q,.int .i64 C,.int .i64 R,.string s,.slice lo ln lc] 27)
 have HS0:Hid (Still w (w.alloc (.cells #[.int .i64 (N:Int),.int .u64 q,.int .i64 C,.int .i64 R,.string s,.slice lo ln lc] 27))):=hid A0
 have HP0:Hid (Cfb (w.alloc (.cells #[.int .i64 (N:Int),.int .u64 q,.int .i64 C,.int .i64 R,.string s,.slice lo ln lc] 27)) w.heap.size ⟨(N:Int),q,C,R,s,.slice lo ln lc⟩):=hid (newCf_cb w ⟨(N:Int),q,C,R,s,.slice lo ln lc⟩)
 clear A0 hr hc hv0 hz ht hd
 go_enter Tryz.func3,Tryz.ntmps3
 go_wp2_with fail
 refine (awake13_any _ (HT.out.still HS0.out) (HDt.out.still HS0.out)).mono ?_
 rintro e w1 ⟨rfl,h1⟩
 have HS1:=hid (HS0.out.trans h1)
 have HP1:=hid (HP0.out.still h1)
 clear h1 HS0 HP0
 obtain ⟨c0,c1,c2,c3,c4,c5,cf⟩:=HP1.out.cells
 dsimp only at c0 c1 c2 c3 c4 c5
 go_wp2_with fail
 refine (HN1.out w1 HS1.out).mono ?_
 rintro e w2 ⟨u,rfl,hW,h2⟩
 have hv2:=OwW.rd hW (by rw [HE.out.1]; omega) (by rw [HE.out.2.1]; omega) (by rw [HE.out.2.2.1]; omega) (by rw [HE.out.2.2.2.1]; omega)
 obtain ⟨a',b,c,d,rfl,q1,q2,q3,q4⟩:=hW
 obtain ⟨z2a,cz2a,rfl,_⟩:=q1.slice
 obtain ⟨z2b,cz2b,rfl,_⟩:=q2.slice
 obtain ⟨z2c,cz2c,rfl,_⟩:=q3.slice
 obtain ⟨z2d,cz2d,rfl,_⟩:=q4.slice
 rw [HE.out.1,HE.out.2.1,HE.out.2.2.1,HE.out.2.2.2.1,HE.out.2.2.2.2.1,HE.out.2.2.2.2.2] at hv2 ⊢
 rw [HE.out.1] at q1
 rw [HE.out.2.1] at q2
 have HD2:Hid ((∀ k,(Value.slice z2a N cz2a).ownBlock=some k->k < w2.heap.size)/\(∀ k,(Value.slice z2b N cz2b).ownBlock=some k->k < w2.heap.size)):=hid ⟨fun k hk=>(q1.block hk).2,fun k hk=>(q2.block hk).2⟩
 have A2:=Still.alloc w2 (.cells (wdcs 0 1 (.slice z2a N cz2a) (.slice z2b N cz2b) (.slice z2c 0 cz2c) (.slice z2d 0 cz2d)) 34)
 have h3:=h2.trans A2
 have HS3:=hid (HS1.out.trans h3)
 have HP3:=hid (HP1.out.still h3)
 have HV3:=hid (hv2.still A2)
 have I3:=hid (q1.still A2)
 have J3:=hid (q2.still A2)
 have HX3:Hid (Wdb (w2.alloc (.cells (wdcs 0 1 (.slice z2a N cz2a) (.slice z2b N cz2b) (.slice z2c 0 cz2c) (.slice z2d 0 cz2d)) 34)) w2.heap.size 0 1 (.slice z2a N cz2a) (.slice z2b N cz2b) (.slice z2c 0 cz2c) (.slice z2d 0 cz2d)):=hid (newWd_wb w2 0 1 (.slice z2a N cz2a) (.slice z2b N cz2b) (.slice z2c 0 cz2c) (.slice z2d 0 cz2d))
 have HBs:=hid (show w.heap.size < w1.heap.size/\w1.heap.size <= w2.heap.size from ⟨block_lt HP1.out,h2.size⟩)
 obtain ⟨W3,eW3⟩:∃ X,w2.alloc (.cells (wdcs 0 1 (.slice z2a N cz2a) (.slice z2b N cz2b) (.slice z2c 0 cz2c) (.slice z2d 0 cz2d)) 34)=X:=⟨_,rfl⟩
 have HZ3:Hid (W3.heap.size=w2.heap.size + 1):=hid (by rw [<- eW3,size_alloc])
 rw [eW3] at HS3 HP3 HV3 I3 J3 HX3
 clear c0 c1 c2 c3 c4 c5 cf h2 A2 h3 hv2 q1 q2 q3 q4 HS1 HP1
 obtain ⟨c0,c1,c2,c3,c4,c5,cf⟩:=HP3.out.cells
 dsimp only at c0 c1 c2 c3 c4 c5
 go_wp2_with fail
 refine (HR1.out _ HS3.out).mono ?_
 rintro e w4 ⟨u,rfl,hW,h4⟩
 have hv4:=OwW.rd hW (by rw [HE.out.1]; omega) (by rw [HE.out.2.1]; omega) (by rw [HE.out.2.2.1]; omega) (by rw [HE.out.2.2.2.1]; omega)
 obtain ⟨a',b,c,d,rfl,q1,q2,q3,q4⟩:=hW
 obtain ⟨z4a,cz4a,rfl,_⟩:=q1.slice
 obtain ⟨z4b,cz4b,rfl,_⟩:=q2.slice
 obtain ⟨z4c,cz4c,rfl,_⟩:=q3.slice
 obtain ⟨z4d,cz4d,rfl,_⟩:=q4.slice
 rw [HE.out.1,HE.out.2.1,HE.out.2.2.1,HE.out.2.2.2.1,HE.out.2.2.2.2.1,HE.out.2.2.2.2.2] at hv4 ⊢
 rw [HE.out.1] at q1
 rw [HE.out.2.1] at q2
 rw [HE.out.2.2.1] at q3
 rw [HE.out.2.2.2.1] at q4
 have A4:=Still.alloc w4 (.cells (wdcs 0 1 (.slice z4a N cz4a) (.slice z4b N cz4b) (.slice z4c 0 cz4c) (.slice z4d 0 cz4d)) 34)
 have h5:=h4.trans A4
 have HS5:=hid (HS3.out.trans h5)
 have HP5:=hid (HP3.out.still h5)
 have HV5:=hid (HV3.out.still h5)
 have HU5:=hid (hv4.still A4)
 have HX5:=hid (HX3.out.still h5)
 have HY5:Hid (Wdb (w4.alloc (.cells (wdcs 0 1 (.slice z4a N cz4a) (.slice z4b N cz4b) (.slice z4c 0 cz4c) (.slice z4d 0 cz4d)) 34)) w4.heap.size 0 1 (.slice z4a N cz4a) (.slice z4b N cz4b) (.slice z4c 0 cz4c) (.slice z4d 0 cz4d)):=hid (newWd_wb w4 0 1 (.slice z4a N cz4a) (.slice z4b N cz4b) (.slice z4c 0 cz4c) (.slice z4d 0 cz4d))
 have I5:=hid (I3.out.still h5)
 have J5:=hid (J3.out.still h5)
 have K1:=hid (q1.still A4)
 have K2:=hid (q2.still A4)
 have K3:=hid (q3.still A4)
 have K4:=hid (q4.still A4)
 have HB4:=hid (show W3.heap.size <= w4.heap.size from h4.size)
 obtain ⟨W5,eW5⟩:∃ X,w4.alloc (.cells (wdcs 0 1 (.slice z4a N cz4a) (.slice z4b N cz4b) (.slice z4c 0 cz4c) (.slice z4d 0 cz4d)) 34)=X:=⟨_,rfl⟩
 rw [eW5] at HS5 HP5 HV5 HU5 HX5 HY5 I5 J5 K1 K2 K3 K4
 clear c0 c1 c2 c3 c4 c5 cf h4 A4 h5 hv4 q1 q2 q3 q4 HS3 HP3 HV3 HX3 I3 J3 eW3
 obtain ⟨d0,d1,d2,d3,d4,d5,df⟩:=HX5.out.cells
 obtain ⟨f0,f1,f2,f3,f4,f5,ff⟩:=HY5.out.cells
 go_wp2_with fail
 refine (rsame_any Wn _ _ W5 HV5.out HU5.out).mono ?_
 rintro e w6 ⟨rfl,h6⟩
 have HS6:=hid (HS5.out.trans h6)
 have HP6:=hid (HP5.out.still h6)
 have HX6:=hid (HX5.out.still h6)
 have HY6:=hid (HY5.out.still h6)
 have I6:=hid (I5.out.still h6)
 have J6:=hid (J5.out.still h6)
 have L1:=hid (K1.out.still h6)
 have L2:=hid (K2.out.still h6)
 have L3:=hid (K3.out.still h6)
 have L4:=hid (K4.out.still h6)
 clear h6 d0 d1 d2 d3 d4 d5 df f0 f1 f2 f3 f4 f5 ff HS5 HP5 HV5 HU5 HX5 HY5 I5 J5 K1 K2 K3 K4 eW5
 obtain ⟨d0,d1,d2,d3,d4,d5,df⟩:=HX6.out.cells
 go_wp2_with fail
 refine (spoil_any 0 1 z2a z2b z2c z2d N N cz2a cz2b cz2c cz2d Wn.ms Wn.cs w1.heap.size w2.heap.size w6 HE.out.1 HE.out.2.1 I6.out J6.out hN6 hN6 HD2.out.1 HD2.out.2).mono ?_
 rintro e w7 ⟨rfl,h7⟩
 have hle:=HB4.out
 rw [HZ3.out] at hle
 have HS7:Hid (Still w w7):=hid (Fr.trans HS6.out h7 (fun k hk e=>by have:=e.1; have:=HBs.out; omega))
 have HP7:Hid (Cfb w7 w.heap.size ⟨(N:Int),q,C,R,s,.slice lo ln lc⟩):=hid (Fr.kept h7 HP6.out (fun e=>by have:=e.1; have:=HBs.out; omega))
 have HY7:Hid (Wdb w7 w4.heap.size 0 1 (.slice z4a N cz4a) (.slice z4b N cz4b) (.slice z4c 0 cz4c) (.slice z4d 0 cz4d)):=hid (Fr.kept h7 HY6.out (fun e=>by have:=e.2; omega))
 have hle3:∀ k,Btw w1.heap.size w2.heap.size k->k < W3.heap.size:=fun k e=>by rw [HZ3.out]; have:=e.2; omega
 have M1:=hid (L1.out.keepB h7 hle3)
 have M2:=hid (L2.out.keepB h7 hle3)
 have M3:=hid (L3.out.keepB h7 hle3)
 have M4:=hid (L4.out.keepB h7 hle3)
 clear h7 hle hle3 d0 d1 d2 d3 d4 d5 df HS6 HP6 HX6 HY6 I6 J6 L1 L2 L3 L4
 obtain ⟨c0,c1,c2,c3,c4,c5,cf⟩:=HP7.out.cells
 dsimp only at c0 c1 c2 c3 c4 c5
 go_wp2_with fail
 refine (HN1.out w7 HS7.out).mono ?_
 rintro e w8 ⟨u,rfl,hW,h8⟩
 have hv8:=OwW.rd hW (by rw [HE.out.1]; omega) (by rw [HE.out.2.1]; omega) (by rw [HE.out.2.2.1]; omega) (by rw [HE.out.2.2.2.1]; omega)
 obtain ⟨a',b,c,d,rfl,q1,q2,q3,q4⟩:=hW
 obtain ⟨z8a,cz8a,rfl,_⟩:=q1.slice
 obtain ⟨z8b,cz8b,rfl,_⟩:=q2.slice
 obtain ⟨z8c,cz8c,rfl,_⟩:=q3.slice
 obtain ⟨z8d,cz8d,rfl,_⟩:=q4.slice
 rw [HE.out.1,HE.out.2.1,HE.out.2.2.1,HE.out.2.2.2.1,HE.out.2.2.2.2.1,HE.out.2.2.2.2.2] at hv8 ⊢
 have A8:=Still.alloc w8 (.cells (wdcs 0 1 (.slice z8a N cz8a) (.slice z8b N cz8b) (.slice z8c 0 cz8c) (.slice z8d 0 cz8d)) 34)
 have h9:=h8.trans A8
 have HS9:=hid (HS7.out.trans h9)
 have HP9:=hid (HP7.out.still h9)
 have HY9:=hid (HY7.out.still h9)
 have HX9:Hid (Wdb (w8.alloc (.cells (wdcs 0 1 (.slice z8a N cz8a) (.slice z8b N cz8b) (.slice z8c 0 cz8c) (.slice z8d 0 cz8d)) 34)) w8.heap.size 0 1 (.slice z8a N cz8a) (.slice z8b N cz8b) (.slice z8c 0 cz8c) (.slice z8d 0 cz8d)):=hid (newWd_wb w8 0 1 (.slice z8a N cz8a) (.slice z8b N cz8b) (.slice z8c 0 cz8c) (.slice z8d 0 cz8d))
 have HV9:=hid (hv8.still A8)
 have HU9:Hid (RdW (w8.alloc (.cells (wdcs 0 1 (.slice z8a N cz8a) (.slice z8b N cz8b) (.slice z8c 0 cz8c) (.slice z8d 0 cz8d)) 34)) (.agg (wdcs 0 1 (.slice z4a N cz4a) (.slice z4b N cz4b) (.slice z4c 0 cz4c) (.slice z4d 0 cz4d))) Wn):=hid (by
  have h:=OwW.rd (show OwW (w8.alloc (.cells (wdcs 0 1 (.slice z8a N cz8a) (.slice z8b N cz8b) (.slice z8c 0 cz8c) (.slice z8d 0 cz8d)) 34)) W3.heap.size _ Wn from ⟨_,_,_,_,rfl,M1.out.still h9,M2.out.still h9,M3.out.still h9,M4.out.still h9⟩) (by rw [HE.out.1]; omega) (by rw [HE.out.2.1]; omega) (by rw [HE.out.2.2.1]; omega) (by rw [HE.out.2.2.2.1]; omega)
  rw [HE.out.2.2.2.2.1,HE.out.2.2.2.2.2] at h
  exact h)
 obtain ⟨W9,eW9⟩:∃ X,w8.alloc (.cells (wdcs 0 1 (.slice z8a N cz8a) (.slice z8b N cz8b) (.slice z8c 0 cz8c) (.slice z8d 0 cz8d)) 34)=X:=⟨_,rfl⟩
 rw [eW9] at HS9 HP9 HY9 HX9 HV9 HU9
 clear c0 c1 c2 c3 c4 c5 cf h8 A8 h9 hv8 q1 q2 q3 q4 HS7 HP7 HY7 M1 M2 M3 M4
 obtain ⟨d0,d1,d2,d3,d4,d5,df⟩:=HX9.out.cells
 obtain ⟨f0,f1,f2,f3,f4,f5,ff⟩:=HY9.out.cells
 go_wp2_with fail
 refine (rsame_any Wn _ _ W9 HV9.out HU9.out).mono ?_
 rintro e wa ⟨rfl,ha⟩
 have HSa:=hid (HS9.out.trans ha)
 have HPa:=hid (HP9.out.still ha)
 clear ha d0 d1 d2 d3 d4 d5 df f0 f1 f2 f3 f4 f5 ff HS9 HP9 HX9 HY9 HV9 HU9 eW9
 obtain ⟨c0,c1,c2,c3,c4,c5,cf⟩:=HPa.out.cells
 dsimp only at c0 c1 c2 c3 c4 c5
 have l0:=Cl.cell c0
 have l1:=Cl.cell c1
 have l2:=Cl.cell c2
 have l3:=Cl.cell c3
 have l4:=Cl.cell c4
 have l5:=Cl.cell c5
 have HCa:=hid (fun z:Aft wa=>HC1.out z.u (HSa.out.trans z.s))
 have HCb:=hid (fun z:Aft wa=>HC2.out z.u (HSa.out.trans z.s))
 have hne:=Aft.here wa
 clear c0 c1 c2 c3 c4 c5 cf
 go_upto_region 8 with fail
 refine region_all (by kernel_rfl) (by kernel_rfl) ?_
 repeat (go_big_quiet_step ((first | (go_at_call 14; with_reducible exact Calls.cl (HCa.out _)) | (go_at_call 15; with_reducible exact Calls.cl (HCb.out _)))))
 refine wpQuiet_nil ?_
 intro wz hzz
 have HSz:=hid (HSa.out.trans hzz)
 clear hzz l0 l1 l2 l3 l4 l5 hne
 go_wp2_with fail
 go_ret
 exact ⟨rfl,HSz.out⟩
theorem configs_law (p q C R:Int) (s:ByteArray) (lo:Option Addr) (ln lc:Nat) (l:List Int) (hz:s.size <= 281474976710656) (w:World) (ht:Tab w) (hd:DTab w) (hr:RdI w lo ln lc l) :
  Calls Tryz.prog 3 #[.agg #[.int .i64 p,.int .u64 q,.int .i64 C,.int .i64 R,.string s,.slice lo ln lc]] w fun e w'=>e=.returned (.bool true)/\Still w w':=by
 obtain ⟨v0,hv0⟩:=chkV_ex C R s w
 by_cases hc:CfgP p v0 (stV C s v0).length l
 ·obtain ⟨N,rfl,_⟩:=cfg_nat hc
  exact configs_yes N q C R s lo ln lc l hz v0 hv0 hc w ht hd hr
 ·exact configs_no p q C R s lo ln lc l hz v0 hv0 hc w ht hd hr
end Go.Proofs.YtmkcoigblnppgaaGreatDoor
