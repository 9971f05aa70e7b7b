import Derived.Test.YthcjckgmdokmdaaGreatDoorXQ39
import Derived.Test.YthcjckgmdokmdaaGreatDoorXQ25
set_option maxHeartbeats 16000000
namespace Go.Proofs.YthcjckgmdokmdaaGreatDoor
open Go.RowKit
open Pu Gp Np Za Ka Ja Ea Ha
set_option maxRecDepth 100000
def nmP (c:Ctr):List Nmd:=[⟨⟨#[116,105,99,107,115]⟩,c.tk⟩,⟨⟨#[115,116,97,108,108,115]⟩,c.sl⟩,⟨⟨#[115,116,101,112,115]⟩,c.sp⟩,⟨⟨#[99,111,112,105,101,115]⟩,c.cp⟩,⟨⟨#[108,97,116,101]⟩,c.lt⟩,⟨⟨#[115,101,110,116]⟩,c.sn⟩,⟨⟨#[103,111,116]⟩,c.gt⟩,⟨⟨#[114,101,102,117,115,101,100]⟩,c.rf⟩,⟨⟨#[97,99,99,101,112,116,101,100]⟩,c.ac⟩]
theorem Mx (c:Ctr):jnS (nmP c)=prS c:=by
 unfold jnS jnW nmP prS;simp only [List.flatMap_cons,List.flatMap_nil,List.cons_append,List.nil_append];generalize itS c.tk=x0;generalize itS c.sl=x1;generalize itS c.sp=x2;generalize itS c.cp=x3;generalize itS c.lt=x4;generalize itS c.sn=x5;generalize itS c.gt=x6;generalize itS c.rf=x7;generalize itS c.ac=x8;apply ByteArray.ext;apply Array.toList_inj.1;simp [Lib.join_cons,Lib.joinTail]
theorem My (c:Ctr) (hc:c.In) (w:World) (ht:PTabV w):Ya 12 #[.agg (VH c)] w (.string (prS c)):=by
 have A0:=aL w (.cells (VH c) 52);have p0:Ctb (w.alloc (.cells (VH c) 52)) w.heap.size c:=heap_alloc_new w _;obtain ⟨c0,c1,c2,c3,c4,c5,c6,c7,c8⟩:=p0.cells;have A1:=aL (w.alloc (.cells (VH c) 52)) (.cells #[.string ⟨#[116,105,99,107,115]⟩,.int .i64 c.tk,.string ⟨#[115,116,97,108,108,115]⟩,.int .i64 c.sl,.string ⟨#[115,116,101,112,115]⟩,.int .i64 c.sp,.string ⟨#[99,111,112,105,101,115]⟩,.int .i64 c.cp,.string ⟨#[108,97,116,101]⟩,.int .i64 c.lt,.string ⟨#[115,101,110,116]⟩,.int .i64 c.sn,.string ⟨#[103,111,116]⟩,.int .i64 c.gt,.string ⟨#[114,101,102,117,115,101,100]⟩,.int .i64 c.rf,.string ⟨#[97,99,99,101,112,116,101,100]⟩,.int .i64 c.ac] 97);have r1:RdG KNm ((w.alloc (.cells (VH c) 52)).alloc (.cells #[.string ⟨#[116,105,99,107,115]⟩,.int .i64 c.tk,.string ⟨#[115,116,97,108,108,115]⟩,.int .i64 c.sl,.string ⟨#[115,116,101,112,115]⟩,.int .i64 c.sp,.string ⟨#[99,111,112,105,101,115]⟩,.int .i64 c.cp,.string ⟨#[108,97,116,101]⟩,.int .i64 c.lt,.string ⟨#[115,101,110,116]⟩,.int .i64 c.sn,.string ⟨#[103,111,116]⟩,.int .i64 c.gt,.string ⟨#[114,101,102,117,115,101,100]⟩,.int .i64 c.rf,.string ⟨#[97,99,99,101,112,116,101,100]⟩,.int .i64 c.ac] 97)) (some ⟨(w.alloc (.cells (VH c) 52)).heap.size,0,none⟩) 9 (nmP c):=VI (heap_alloc_new _ _) (nmP c) rfl (Nat.le_of_ble_eq_true rfl);have H1:=hid (BA (nmP c) (by
  obtain ⟨h0,h1,h2,h3,h4,h5,h6,h7,h8⟩:=hc;intro x hx;simp only [nmP,List.mem_cons,List.not_mem_nil,or_false] at hx;rcases hx with rfl | rfl | rfl | rfl | rfl | rfl | rfl | rfl | rfl <;> exact ⟨by assumption,Nat.le_of_ble_eq_true rfl⟩) (Nat.le_refl 9) (by show 0<9; omega) _ 9 9 _ r1 (ht.sT (A0.trans A1)))
 rw [Mx,Yf] at H1;have HS1:=hid (A0.trans A1);obtain ⟨T,eT⟩:∃ T,prS c=T:=⟨_,rfl⟩;rw [eT] at H1 ⊢;clear A0 A1 r1 p0 hc ht eT;go_enter Tryz.func12,Tryz.ntmps12;go_wp2_with fail;refine H1.o.mono ?_;rintro e w2 ⟨rfl,h2⟩;have HS2:=hid (HS1.o.trans h2);clear h2 H1 HS1;go_wp2_with fail;go_ret;exact ⟨rfl,HS2.o⟩
def Scb (w:World) (g:Nat) (C R:Int) (s:ByteArray) (p:Value) (fr nx:Int) (a b c d:Value):Prop:=w.heap[g]?=some (.cells #[.int .i64 C,.int .i64 R,.string s,p,.int .i64 fr,a,b,c,d,.int .i64 nx] 106 (0,0))
theorem Scb.sT {w w':World} {g:Nat} {C R:Int} {s:ByteArray} {p:Value} {fr nx:Int} {a b c d:Value} (h:Scb w g C R s p fr nx a b c d) (hs:Yc w w'):Scb w' g C R s p fr nx a b c d:=hs.kept_still h
theorem Scb.cells {w:World} {g:Nat} {C R:Int} {s:ByteArray} {p:Value} {fr nx:Int} {a b c d:Value} (h:Scb w g C R s p fr nx a b c d):w.cell? ⟨g,0,none⟩=some (.int .i64 C)/\w.cell? ⟨g,1,none⟩=some (.int .i64 R)/\w.cell? ⟨g,2,none⟩=some (.string s)/\w.cell? ⟨g,3,none⟩=some p/\w.cell? ⟨g,4,none⟩=some (.int .i64 fr)/\w.cell? ⟨g,5,none⟩=some a/\w.cell? ⟨g,6,none⟩=some b/\w.cell? ⟨g,7,none⟩=some c/\w.cell? ⟨g,8,none⟩=some d/\w.cell? ⟨g,9,none⟩=some (.int .i64 nx):=by
 refine ⟨?_, ?_, ?_, ?_, ?_, ?_, ?_, ?_, ?_, ?_⟩ <;> (rw [cell_of_row _ _ _ _ _ _ h]; rfl)
theorem KTab.at2 {w:World} (h:KTab w):w.cell? ⟨0,3,none⟩=some (.string ⟨#[104]⟩)/\w.cell? ⟨0,5,none⟩=some (.string ⟨#[99]⟩)/\w.cell? ⟨0,7,none⟩=some (.string ⟨#[112]⟩):=⟨h.sg 1 (by decide),h.sg 2 (by decide),h.sg 3 (by decide)⟩
theorem Mz (C R:Int) (s:ByteArray) (fr nx:Int) (ao bo co xo po:Option Addr) (ac bn bc cc xc pc:Nat) (M:List Mv) (H:List Sh) (K:List Pk) (sp:List (Int × Int)) (n m k sn c r:Nat) (hz:s.size<=281474976710656) (w:World) (hM:RdG KM w ao n M) (hn:n<=6) (hH:RdG KS w co m H) (hK:RdG KQ w xo k K) (hS:RdG KT w po sn sp) (hk:∀ i,i<k->0<=(Ka.pk K i).sp/\(Ka.pk K i).sp<(sn:Int)/\1<=(Ka.pk K i).kd/\(Ka.pk K i).kd<=3)
  (q1:∀ i,i<n->YG (mm M i).ax/\YG (mm M i).ay) (q2:∀ i,i<m->YG (ss H i).ax/\YG (ss H i).ay) (q3:∀ i,i<sn->YG (pp sp i).1/\YG (pp sp i).2) (ht:KTab w) :
  Ya 45 #[.agg #[.int .i64 C,.int .i64 R,.string s,.slice po sn pc,.int .i64 fr,.slice ao n ac,.slice bo bn bc,.slice co m cc,.slice xo k xc,.int .i64 nx],.agg #[.int .i64 (c:Int),.int .i64 (r:Int)]] w (.string (sgS (Ym C R s (c:Int) (r:Int)) (mvP M c r) (shP H c r) (pkP K sp c r) (fun i=>(Ka.pk K i).kd) n m k)):=by
 have A0:=aL w (.cells #[.int .i64 C,.int .i64 R,.string s,.slice po sn pc,.int .i64 fr,.slice ao n ac,.slice bo bn bc,.slice co m cc,.slice xo k xc,.int .i64 nx] 106);have A1:=aL (w.alloc (.cells #[.int .i64 C,.int .i64 R,.string s,.slice po sn pc,.int .i64 fr,.slice ao n ac,.slice bo bn bc,.slice co m cc,.slice xo k xc,.int .i64 nx] 106)) (.cells #[.int .i64 (c:Int),.int .i64 (r:Int)] 117);have a0:Scb (w.alloc (.cells #[.int .i64 C,.int .i64 R,.string s,.slice po sn pc,.int .i64 fr,.slice ao n ac,.slice bo bn bc,.slice co m cc,.slice xo k xc,.int .i64 nx] 106)) w.heap.size C R s (.slice po sn pc) fr nx (.slice ao n ac) (.slice bo bn bc) (.slice co m cc) (.slice xo k xc):=heap_alloc_new w _;have b0:Clb ((w.alloc (.cells #[.int .i64 C,.int .i64 R,.string s,.slice po sn pc,.int .i64 fr,.slice ao n ac,.slice bo bn bc,.slice co m cc,.slice xo k xc,.int .i64 nx] 106)).alloc (.cells #[.int .i64 (c:Int),.int .i64 (r:Int)] 117)) (w.alloc (.cells #[.int .i64 C,.int .i64 R,.string s,.slice po sn pc,.int .i64 fr,.slice ao n ac,.slice bo bn bc,.slice co m cc,.slice xo k xc,.int .i64 nx] 106)).heap.size (c:Int) (r:Int):=heap_alloc_new _ _;rw [Yf] at b0;have HS0:=hid (A0.trans A1);have HP0:=hid (a0.sT A1);have HQ0:=hid b0;obtain ⟨W0,eW0⟩:∃ X,((w.alloc (.cells #[.int .i64 C,.int .i64 R,.string s,.slice po sn pc,.int .i64 fr,.slice ao n ac,.slice bo bn bc,.slice co m cc,.slice xo k xc,.int .i64 nx] 106)).alloc (.cells #[.int .i64 (c:Int),.int .i64 (r:Int)] 117))=X:=⟨_,rfl⟩;rw [eW0] at HS0 HP0 HQ0;obtain ⟨c0,c1,c2,c3,c4,c5,c6,c7,c8,c9⟩:=HP0.o.cells;obtain ⟨h0,h1,hf⟩:=HQ0.o.cells;clear A0 A1 b0 a0;have HM:=hid hM;have HH:=hid hH;have HK:=hid hK;have HSp:=hid hS;have HKd:=hid hk;have H1:=hid q1;have H2:=hid q2;have H3:=hid q3;have HTb:=hid ht;have hm47:m<=281474976710656:=hH.2.1;have hk47:k<=281474976710656:=hK.2.1;have hs47:sn<=281474976710656:=hS.2.1;obtain ⟨b,eb⟩:∃ b,Ym C R s (c:Int) (r:Int)=b:=⟨_,rfl⟩;have HSo:=hid (Vi C R (c:Int) (r:Int) s hz eb W0);rw [eb];clear eb hM hH hK hS hk hz q1 q2 q3 ht;cases b with
 | true =>
  go_enter Tryz.func45,Tryz.ntmps45;go_wp2_with fail
  (try rw [eW0])
  clear eW0;refine HSo.o.mono ?_;rintro e w1 ⟨rfl,h1'⟩;have HS1:=hid (HS0.o.trans h1');clear h1' c0 c1 c2 c3 c4 c5 c6 c7 c8 c9 h0 h1 hf;go_wp2_with fail;go_ret;exact ⟨rfl,HS1.o⟩
 | false =>
  obtain ⟨T,eT⟩:∃ T,sgS false (mvP M c r) (shP H c r) (pkP K sp c r) (fun i=>(Ka.pk K i).kd) n m k=T:=⟨_,rfl⟩;have HT:=hid eT;rw [eT];clear eT;go_enter Tryz.func45,Tryz.ntmps45;go_wp2_with fail
  (try rw [eW0])
  clear eW0;refine HSo.o.mono ?_;rintro e w1 ⟨rfl,h1'⟩;have HS1:=hid (HS0.o.trans h1');have HP1:=hid (HP0.o.sT h1');have HQ1:=hid (HQ0.o.sT h1');clear h1' c0 c1 c2 c3 c4 c5 c6 c7 c8 c9 h0 h1 hf HSo HP0 HQ0 HS0;obtain ⟨c0,c1,c2,c3,c4,c5,c6,c7,c8,c9⟩:=HP1.o.cells;go_wp2_with fail;clear c0 c1 c2 c3 c4 c5 c6 c7 c8 c9;go_loopw [22] (fun u wr=>∃ i:Nat,i<=n/\u=.int .i64 (i:Int)/\Hid (YS (mvP M c r) i=none)/\Yc w1 wr) (fun u _=>n - (intOf u).toNat);case atStart=>exact ⟨0,by omega,rfl,hid rfl,Fr.refl _ _⟩
  case round =>
   obtain ⟨i,hi,rfl,HF,hs⟩:=hrel;have HS:=hid hs;by_cases hin:i<n
   ·have hlt:(i:Int)<(n:Int):=by omega
    have hr1:=HM.o.sT (HS1.o.trans hs);obtain ⟨B,o,rfl⟩:=hr1.at (by omega);obtain ⟨m0,m1,m2,m3,m4,m5,m6,m7,m8,m9,m10,m11,m12⟩:=rdM hr1 hin;have HNo:=hid (fun h=>UH (P:=mvP M c r) (i:=i) HF.o h);have HYs:=hid (fun h=>Uk (P:=mvP M c r) (i:=i) HF.o h n hin);have HD:Hid (mvP M c r i=(decide ((mm M i).ou=0) && ivB (mm M i).ax (mm M i).ay c r)):=hid rfl;have hpl:=H1.o i hin;obtain ⟨a,ea⟩:∃ x,mm M i=x:=⟨_,rfl⟩;rw [ea] at m0 m1 m2 m3 m4 m5 m6 m7 m8 m9 m10 m11 m12 HD hpl;have A2:=aL wr (.cells (mcs a) 56);have p2:Mb (wr.alloc (.cells (mcs a) 56)) wr.heap.size a:=heap_alloc_new wr _;have HP2:=hid p2;have HS2:=hid (hs.trans A2);have HC2:=hid (HQ1.o.sT (hs.trans A2));have HCo:=hid (fun u=>Q8 a.ax a.ay hpl.1 hpl.2 u);have E1:=Q9 a.ax a.ay c r;obtain ⟨cx,ecx⟩:∃ z,a.ax / 4096=z:=⟨_,rfl⟩;obtain ⟨cy,ecy⟩:∃ z,a.ay / 4096=z:=⟨_,rfl⟩;rw [ecx,ecy] at HCo E1;obtain ⟨t,et⟩:∃ t,ivB a.ax a.ay c r=t:=⟨_,rfl⟩;rw [et] at E1 HD;obtain ⟨W2,eW2⟩:∃ X,wr.alloc (.cells (mcs a) 56)=X:=⟨_,rfl⟩;rw [eW2] at HP2 HS2 HC2;clear ea hr1 hs A2 p2 hpl ecx ecy et;go_upto_region 6 with fail
    (try rw [eW2])
    clear eW2 m0 m1 m2 m3 m4 m5 m6 m7 m8 m9 m10 m11 m12;obtain ⟨m0,m1,m2,m3,m4,m5,m6,m7,m8,m9,m10,m11,m12,mf⟩:=HP2.o.cells;obtain ⟨h0,h1,hf⟩:=HC2.o.cells;have k0:=kC m0;have k1:=kC m1;have k2:=kC m11;have k3:=kC h0;have k4:=kC h1;have hne:=Aft.here W2;have G:=hid (fun z:Aft W2=>HCo.o z.u);clear m0 m1 m2 m3 m4 m5 m6 m7 m8 m9 m10 m11 m12 mf h0 h1 hf;by_cases ho:a.ou=0
    ·have bO:(a.ou == 0)=true:=by simpa using ho
     have HD1:Hid (mvP M c r i=t):=hid (by rw [HD.o,ho]; simp);clear HD ho;refine Yo (by kernel_rfl) (by kernel_rfl) ?_;repeat (go_big_quiet_step ((first | (go_at_call 102; with_reducible exact Calls.cl (G.o _)))))
     refine wpQuiet_nil ?_;intro w3 h3;have HS3:=hid (HS2.o.trans h3);clear h3 hne k0 k1 k2 k3 k4 G E1 bO HP2 HC2;cases t with
     | true =>
      have HL:=hid (ZW (i:Int) (seatB_iff.2 ⟨by omega,by omega⟩) w3);rw [Int.toNat_natCast] at HL;have HE:=hid (HT.o.symm.trans (Wz (HYs.o HD1.o)));go_wp2_with fail;refine HL.o.mono ?_;rintro e w4 ⟨rfl,h4⟩;have HS4:=hid (HS1.o.trans (HS3.o.trans h4));clear h4;go_wp2_with fail
      (first | rw [Exit.noGoto_ret] | skip)
      go_ret;exact ⟨by rw [HE.o]; try rfl,HS4.o⟩
     | false =>
      have HF2:=hid (HNo.o HD1.o);go_wp2_with fail;go_roundw;case rel=>exact ⟨i+1,by omega,by go_num,HF2,HS3.o⟩
      case measure=>first | (simp [intOf]; done) | (simp [intOf]; omega)
    ·have bO:(a.ou == 0)=false:=by simpa using ho
     have HF2:=hid (HNo.o (by rw [HD.o]; simp [ho]));clear HD ho;refine Yo (by kernel_rfl) (by kernel_rfl) ?_;repeat (go_big_quiet_step (fail))
     refine wpQuiet_nil ?_;intro w3 h3;have HS3:=hid (HS2.o.trans h3);clear h3 hne k0 k1 k2 k3 k4 G E1 bO HP2 HC2;go_wp2_with fail;go_roundw;case rel=>exact ⟨i+1,by omega,by go_num,HF2,HS3.o⟩
     case measure=>first | (simp [intOf]; done) | (simp [intOf]; omega)
   ·have hge:¬ (i:Int)<(n:Int):=by omega
    obtain rfl:i=n:=by omega
    obtain ⟨c0,c1,c2,c3,c4,c5,c6,c7,c8,c9⟩:=(HP1.o.sT hs).cells;clear hs hin;go_wp2_with fail;clear c0 c1 c2 c3 c4 c5 c6 c7 c8 c9;go_loopw [44] (fun u wr2=>∃ j:Nat,j<=m/\u=.int .i64 (j:Int)/\Hid (YS (shP H c r) j=none)/\Yc w1 wr2) (fun u _=>m - (intOf u).toNat);case atStart=>exact ⟨0,by omega,rfl,hid rfl,HS.o⟩
    case round =>
     clear HS;obtain ⟨j,hj,rfl,HG,hs⟩:=hrel;have HS:=hid hs;by_cases hjn:j<m
     ·have hlt:(j:Int)<(m:Int):=by omega
      have hr1:=HH.o.sT (HS1.o.trans hs);obtain ⟨B,o,rfl⟩:=hr1.at (by omega);obtain ⟨m0,m1,m2,m3,m4,m5,m6,m7⟩:=rdS hr1 hjn;have HNo:=hid (fun h=>UH (P:=shP H c r) (i:=j) HG.o h);have HYs:=hid (fun h=>Uk (P:=shP H c r) (i:=j) HG.o h m hjn);have HD:Hid (shP H c r j=ivB (ss H j).ax (ss H j).ay c r):=hid rfl;have hpl:=H2.o j hjn;obtain ⟨a,ea⟩:∃ x,ss H j=x:=⟨_,rfl⟩;rw [ea] at m0 m1 m2 m3 m4 m5 m6 m7 HD hpl;have A2:=aL wr (.cells (scs a) 122);have p2:Sb (wr.alloc (.cells (scs a) 122)) wr.heap.size a:=heap_alloc_new wr _;have HP2:=hid p2;have HS2:=hid (hs.trans A2);have HC2:=hid (HQ1.o.sT (hs.trans A2));have HCo:=hid (fun u=>Q8 a.ax a.ay hpl.1 hpl.2 u);have E1:=Q9 a.ax a.ay c r;obtain ⟨cx,ecx⟩:∃ z,a.ax / 4096=z:=⟨_,rfl⟩;obtain ⟨cy,ecy⟩:∃ z,a.ay / 4096=z:=⟨_,rfl⟩;rw [ecx,ecy] at HCo E1;obtain ⟨t,et⟩:∃ t,ivB a.ax a.ay c r=t:=⟨_,rfl⟩;rw [et] at E1 HD;obtain ⟨W2,eW2⟩:∃ X,wr.alloc (.cells (scs a) 122)=X:=⟨_,rfl⟩;rw [eW2] at HP2 HS2 HC2;clear ea hr1 hs A2 p2 hpl ecx ecy et;go_upto_region 12 with fail
      (try rw [eW2])
      clear eW2 m0 m1 m2 m3 m4 m5 m6 m7;obtain ⟨m0,m1,m2,m3,m4,m5,m6,m7,mf⟩:=HP2.o.cells;obtain ⟨h0,h1,hf⟩:=HC2.o.cells;have k0:=kC m3;have k1:=kC m4;have k3:=kC h0;have k4:=kC h1;have hne:=Aft.here W2;have G:=hid (fun z:Aft W2=>HCo.o z.u);clear m0 m1 m2 m3 m4 m5 m6 m7 mf h0 h1 hf;refine Yo (by kernel_rfl) (by kernel_rfl) ?_;repeat (go_big_quiet_step ((first | (go_at_call 102; with_reducible exact Calls.cl (G.o _)))))
      refine wpQuiet_nil ?_;intro w3 h3;have HS3:=hid (HS2.o.trans h3);clear h3 hne k0 k1 k3 k4 G E1 HP2 HC2;cases t with
      | true =>
       have HE:=hid (HT.o.symm.trans (WA HF.o (HYs.o HD.o)));have HS4:=hid (HS1.o.trans HS3.o);go_wp2_with fail
       (first | rw [Exit.noGoto_ret] | skip)
       go_ret;exact ⟨by rw [HE.o]; try rfl,HS4.o⟩
      | false =>
       have HF2:=hid (HNo.o HD.o);go_wp2_with fail;go_roundw;case rel=>exact ⟨j+1,by omega,by go_num,HF2,HS3.o⟩
       case measure=>first | (simp [intOf]; done) | (simp [intOf]; omega)
     ·have hge:¬ (j:Int)<(m:Int):=by omega
      obtain rfl:j=m:=by omega
      obtain ⟨c0,c1,c2,c3,c4,c5,c6,c7,c8,c9⟩:=(HP1.o.sT hs).cells;clear hs hjn;go_wp2_with fail;clear c0 c1 c2 c3 c4 c5 c6 c7 c8 c9;go_loopw [58] (fun u wr3=>∃ l:Nat,l<=k/\u=.int .i64 (l:Int)/\Hid (YS (pkP K sp c r) l=none)/\Yc w1 wr3) (fun u _=>k - (intOf u).toNat);case atStart=>exact ⟨0,by omega,rfl,hid rfl,HS.o⟩
      case round =>
       clear HS;obtain ⟨l,hl,rfl,HJ,hs⟩:=hrel;have HS:=hid hs;by_cases hln:l<k
       ·have hlt:(l:Int)<(k:Int):=by omega
        have hr1:=HK.o.sT (HS1.o.trans hs);obtain ⟨B,o,rfl⟩:=hr1.at (by omega);have HNo:=hid (fun h=>UH (P:=pkP K sp c r) (i:=l) HJ.o h);have HYs:=hid (fun h=>Uk (P:=pkP K sp c r) (i:=l) HJ.o h k hln);have HD:Hid (pkP K sp c r l=ivB (pp sp (Ka.pk K l).sp.toNat).1 (pp sp (Ka.pk K l).sp.toNat).2 c r):=hid rfl;have hkd:=HKd.o l hln;obtain ⟨m0,m1,m2⟩:=rdQ hr1 hln;obtain ⟨a,ea⟩:∃ x,Ka.pk K l=x:=⟨_,rfl⟩;have HEa:=hid ea;rw [ea] at m0 m1 m2 HD hkd;obtain ⟨no,sq,kd⟩:=a;dsimp only at m0 m1 m2 HD hkd;obtain ⟨g1,g2,g3,g4⟩:=hkd;obtain ⟨y,rfl⟩:∃ y:Nat,sq=(y:Int):=⟨sq.toNat,by omega⟩;rw [Int.toNat_natCast] at HD;have hy:y<sn:=by omega
        have hyI:(y:Int)<(sn:Int):=by omega
        have A2:=aL wr (.cells #[.int .i64 no,.int .i64 (y:Int),.int .i64 kd] 124);have p2:Pkv (wr.alloc (.cells #[.int .i64 no,.int .i64 (y:Int),.int .i64 kd] 124)) wr.heap.size no (y:Int) kd:=heap_alloc_new wr _;have hr2:=HSp.o.sT ((HS1.o.trans hs).trans A2);obtain ⟨B2,o2,rfl⟩:=hr2.at (by omega);obtain ⟨s0,s1⟩:=rdP hr2 hy;have hpl:=H3.o y hy;have HB:=hid p2;have HS2:=hid (hs.trans A2);have HC2:=hid (HQ1.o.sT (hs.trans A2));have HP3:=hid (HP1.o.sT (hs.trans A2));have HTb2:=hid (HTb.o.sT (HS1.o.trans (hs.trans A2)));obtain ⟨z,ez⟩:∃ z,pp sp y=z:=⟨_,rfl⟩;rw [ez] at s0 s1 HD hpl;obtain ⟨z1,z2⟩:=z;dsimp only at s0 s1 HD hpl;have HCo:=hid (fun u=>Q8 z1 z2 hpl.1 hpl.2 u);have E1:=Q9 z1 z2 c r;obtain ⟨cx,ecx⟩:∃ z,z1 / 4096=z:=⟨_,rfl⟩;obtain ⟨cy,ecy⟩:∃ z,z2 / 4096=z:=⟨_,rfl⟩;rw [ecx,ecy] at HCo E1;obtain ⟨t,et⟩:∃ t,ivB z1 z2 c r=t:=⟨_,rfl⟩;rw [et] at E1 HD;obtain ⟨W2,eW2⟩:∃ X,wr.alloc (.cells #[.int .i64 no,.int .i64 (y:Int),.int .i64 kd] 124)=X:=⟨_,rfl⟩;rw [eW2] at HB HS2 HC2 HP3 HTb2 s0 s1;clear ea hr1 hr2 hs A2 p2 hpl ecx ecy et ez;go_upto_region 18 with fail
        (try rw [eW2])
        clear eW2 m0 m1 m2;obtain ⟨b0,b1,b2,bf⟩:=HB.o.cells;obtain ⟨h0,h1,hf⟩:=HC2.o.cells;obtain ⟨c0,c1,c2,c3,c4,c5,c6,c7,c8,c9⟩:=HP3.o.cells;have k0:=kC s0;have k1:=kC s1;have k2:=kC b1;have k3:=kC h0;have k4:=kC h1;have k5:=kC c3;have hne:=Aft.here W2;have G:=hid (fun z:Aft W2=>HCo.o z.u);clear b0 b1 b2 bf h0 h1 hf c0 c1 c2 c3 c4 c5 c6 c7 c8 c9 s0 s1;refine Yo (by kernel_rfl) (by kernel_rfl) ?_;repeat (go_big_quiet_step ((first | (go_at_call 102; with_reducible exact Calls.cl (G.o _)))))
        refine wpQuiet_nil ?_;intro w3 h3;have HS3:=hid (HS2.o.trans h3);have HB3:=hid (HB.o.sT h3);have HTb3:=hid (HTb2.o.sT h3);clear h3 hne k0 k1 k2 k3 k4 k5 G E1 HC2 HP3 HB HTb2;cases t with
        | true =>
         have HE:=hid (HT.o.symm.trans (WB HF.o HG.o (HYs.o HD.o)));rw [HEa.o] at HE;have HS4:=hid (HS1.o.trans HS3.o);obtain ⟨b0,b1,b2,bf⟩:=HB3.o.cells;obtain ⟨t1,t2,t3⟩:=HTb3.o.at2;clear HD HNo HYs HEa;rcases (show kd=1\/kd=2\/kd=3 by omega) with rfl | rfl | rfl
         ·clear g3 g4;go_wp2_with fail
          (first | rw [Exit.noGoto_ret] | skip)
          go_ret;exact ⟨by rw [HE.o]; try rfl,HS4.o⟩
         ·clear g3 g4;go_wp2_with fail
          (first | rw [Exit.noGoto_ret] | skip)
          go_ret;exact ⟨by rw [HE.o]; try rfl,HS4.o⟩
         ·clear g3 g4;go_wp2_with fail
          (first | rw [Exit.noGoto_ret] | skip)
          go_ret;exact ⟨by rw [HE.o]; try rfl,HS4.o⟩
        | false =>
         have HF2:=hid (HNo.o HD.o);clear HD HNo HYs HEa;go_wp2_with fail;go_roundw;case rel=>exact ⟨l+1,by omega,by go_num,HF2,HS3.o⟩
         case measure=>first | (simp [intOf]; done) | (simp [intOf]; omega)
       ·have hge:¬ (l:Int)<(k:Int):=by omega
        obtain rfl:l=k:=by omega
        have HE:=hid (HT.o.symm.trans (WC HF.o HG.o HJ.o));have HS9:=hid (HS1.o.trans hs);clear hs hln;go_wp2_with fail;go_ret;exact ⟨by rw [HE.o]; try rfl,HS9.o⟩
end Go.Proofs.YthcjckgmdokmdaaGreatDoor
