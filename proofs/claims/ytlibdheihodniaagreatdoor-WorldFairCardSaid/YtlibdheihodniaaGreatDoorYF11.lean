/- Parts of the proof, laid end to end. -/
import Derived.Test.YtlibdheihodniaaGreatDoorYF09
import Derived.Deep.DeepCutAuto
import Derived.Deep.RegionHeld3
import Derived.BigRegion
namespace Go.Proofs.YtlibdheihodniaaGreatDoor
open Go.RowKit
open Ea
set_option maxRecDepth 100000
theorem cnan_any (x:Int) (w:World):Calls Tryz.prog 79 #[.int .i64 x] w fun e w'=>e=.returned (.bool false)/\w'=w:=by
 have h:(x != x)=false:=by simp
 go_enter Tryz.func79,Tryz.ntmps79
 go_wp2_with fail
 go_ret
 exact ⟨by simp,rfl⟩
theorem ccmp_any (x y:Int) (w:World):Calls Tryz.prog 42 #[.int .i64 x,.int .i64 y] w fun e w'=>e=.returned (.int .i64 (cI x y))/\w'=w:=by
 have H1:=hid (fun w=>cnan_any x w)
 have H2:=hid (fun w=>cnan_any y w)
 by_cases h1:x<y
 ·have HE:Hid (cI x y=-1):=hid (by unfold cI; rw [if_pos h1])
  go_enter Tryz.func42,Tryz.ntmps42
  go_wp2_with fail
  refine (H1.out _).mono ?_
  rintro e w1 ⟨rfl,rfl⟩
  go_wp2_with fail
  refine (H2.out _).mono ?_
  rintro e w1 ⟨rfl,rfl⟩
  go_wp2_with fail
  go_ret
  exact ⟨by rw [HE.out]; rfl,rfl⟩
 ·by_cases h2:x > y
  ·have HE:Hid (cI x y=1):=hid (by unfold cI; rw [if_neg h1,if_pos h2])
   go_enter Tryz.func42,Tryz.ntmps42
   go_wp2_with fail
   refine (H1.out _).mono ?_
   rintro e w1 ⟨rfl,rfl⟩
   go_wp2_with fail
   refine (H2.out _).mono ?_
   rintro e w1 ⟨rfl,rfl⟩
   go_wp2_with fail
   go_ret
   exact ⟨by rw [HE.out]; rfl,rfl⟩
  ·have HE:Hid (cI x y=0):=hid (by unfold cI; rw [if_neg h1,if_neg h2])
   go_enter Tryz.func42,Tryz.ntmps42
   go_wp2_with fail
   refine (H1.out _).mono ?_
   rintro e w1 ⟨rfl,rfl⟩
   go_wp2_with fail
   refine (H2.out _).mono ?_
   rintro e w1 ⟨rfl,rfl⟩
   go_wp2_with fail
   go_ret
   exact ⟨by rw [HE.out]; rfl,rfl⟩
theorem cor_any (l:List Int) (B n cap:Nat) (w:World) (hr:RdI w (some ⟨B,0,none⟩) n cap l):Calls Tryz.prog 41 #[.slice (some ⟨B,0,none⟩) n cap] w fun e w'=>e=.returned (.int .i64 (orI l))/\w'=w:=by
 have hl:=hr.len
 have hn:=hr.small
 have HR:=hid hr
 clear hr
 go_enter Tryz.func41,Tryz.ntmps41
 go_wp2_with fail
 go_loopw [8] (fun u wr=>∃ k:Nat,k<=n/\u=.int .i64 (k:Int)/\Hid (orI l=orI (l.drop k))/\wr=w) (fun u _=>n - (intOf u).toNat)
 case atStart=>exact ⟨0,by omega,rfl,hid (by simp),rfl⟩
 case round =>
  obtain ⟨k,hk,rfl,HE,rfl⟩:=hrel
  by_cases hkn:k<n
  ·have hlt:(k:Int)<(n:Int):=by omega
   have c0:=HR.out.byte (k:=k) (by omega)
   rw [Nat.zero_add] at c0
   have HD:Hid (orI (l.drop k)=if l[k]'(by omega)≠0 then l[k]'(by omega) else orI (l.drop (k+1))):=hid (by rw [List.drop_eq_getElem_cons (by omega)]; rfl)
   obtain ⟨x,ex⟩:∃ x,l[k]'(by omega)=x:=⟨_,rfl⟩
   rw [ex] at c0 HD
   clear ex
   by_cases hx:x=0
   ·have HE2:Hid (orI l=orI (l.drop (k+1))):=hid (by rw [HE.out,HD.out,if_neg (by simpa using hx)])
    subst hx
    clear HE HD
    go_wp2_with fail
    go_roundw
    case rel=>exact ⟨k+1,by omega,by go_num,HE2,by trivial⟩
    case measure=>simp [intOf]; omega
   ·have HE2:Hid (orI l=x):=hid (by rw [HE.out,HD.out,if_pos (by simpa using hx)])
    have hx':(x != 0)=true:=by simpa using hx
    clear HE HD hx
    go_wp2_with fail
    (first | rw [Exit.noGoto_ret] | skip)
    go_ret
    exact ⟨by rw [HE2.out]; rfl,rfl⟩
  ·have hge:¬ (k:Int)<(n:Int):=by omega
   have HE2:Hid (orI l=0):=hid (by rw [HE.out,List.drop_eq_nil_of_le (by omega)]; rfl)
   clear HE
   go_wp2_with fail
   go_ret
   exact ⟨by rw [HE2.out]; rfl,rfl⟩
theorem xwithin_any (n a b:Int) (w:World):Calls Tryz.prog 131 #[.int .i64 n,.int .i64 a,.int .i64 b] w fun e w'=>e=.returned (.bool (decide (a<=n/\n<=b)))/\w'=w:=by
 by_cases h1:a<=n
 ·by_cases h2:n<=b
  ·rw [show decide (a<=n/\n<=b)=true by simp; omega]
   go_enter Tryz.func131,Tryz.ntmps131
   go_wp2_with fail
   go_ret
   exact ⟨rfl,rfl⟩
  ·rw [show decide (a<=n/\n<=b)=false by simp; omega]
   go_enter Tryz.func131,Tryz.ntmps131
   go_wp2_with fail
   go_ret
   exact ⟨rfl,rfl⟩
 ·rw [show decide (a<=n/\n<=b)=false by simp; omega]
  go_enter Tryz.func131,Tryz.ntmps131
  go_wp2_with fail
  go_ret
  exact ⟨rfl,rfl⟩
theorem scount_any (n:Int) (w:World):Calls Tryz.prog 132 #[.int .i64 n] w fun e w'=>e=.returned (.bool (decide (0<=n/\n<=2147483647)))/\w'=w:=by
 have H:=hid (fun w=>xwithin_any n 0 2147483647 w)
 obtain ⟨b,eb⟩:∃ b,decide (0<=n/\n<=2147483647)=b:=⟨_,rfl⟩
 rw [eb] at H ⊢
 clear eb
 go_enter Tryz.func132,Tryz.ntmps132
 go_wp2_with fail
 refine (H.out _).mono ?_
 rintro e w1 ⟨rfl,rfl⟩
 go_wp2_with fail
 go_ret
 exact ⟨rfl,rfl⟩
theorem bd_is (n:Int):max (-2147483647) (min 2147483647 n)=bdC n:=by
 unfold bdC; split <;> (try split) <;> omega
theorem ssum_any (n m:Int) (h1:-9223372036854775808<=n+m) (h2:n+m<=9223372036854775807) (w:World):Calls Tryz.prog 164 #[.int .i64 n,.int .i64 m] w fun e w'=>e=.returned (.int .i64 (bdC (n+m)))/\w'=w:=by
 have HE:=hid (bd_is (n+m))
 go_enter Tryz.func164,Tryz.ntmps164
 go_wp2_with fail
 go_ret
 exact ⟨by rw [<- HE.out]; rfl,rfl⟩
theorem mayC_four (x:Scr):mayC x=(decide (-2147483647<=x.p/\x.p<=2147483647) && (decide (0<=x.h/\x.h<=2147483647) && (decide (0<=x.o/\x.o<=2147483647) && decide (0<=x.k/\x.k<=2147483647)))):=by
 rw [Bool.eq_iff_iff,mayC_iff]
 unfold MayC
 simp only [Bool.and_eq_true,decide_eq_true_eq]
theorem smay_any (x:Scr) (w:World):Calls Tryz.prog 92 #[cv x] w fun e w'=>e=.returned (.bool (mayC x))/\Still w w':=by
 have p:=newC_cb w x
 have HS:=hid (Still.alloc w (.cells (ccs x) 50))
 obtain ⟨c0,c1,c2,c3,cf⟩:=p.cells
 clear p
 have H0:=hid (fun w=>xwithin_any x.p (-2147483647) 2147483647 w)
 have H1:=hid (fun w=>scount_any x.h w)
 have H2:=hid (fun w=>scount_any x.o w)
 have H3:=hid (fun w=>scount_any x.k w)
 have HE:=hid (mayC_four x)
 obtain ⟨M,eM⟩:∃ b,mayC x=b:=⟨_,rfl⟩
 obtain ⟨b0,e0⟩:∃ b,decide (-2147483647<=x.p/\x.p<=2147483647)=b:=⟨_,rfl⟩
 obtain ⟨b1,e1⟩:∃ b,decide (0<=x.h/\x.h<=2147483647)=b:=⟨_,rfl⟩
 obtain ⟨b2,e2⟩:∃ b,decide (0<=x.o/\x.o<=2147483647)=b:=⟨_,rfl⟩
 obtain ⟨b3,e3⟩:∃ b,decide (0<=x.k/\x.k<=2147483647)=b:=⟨_,rfl⟩
 rw [eM,e0,e1,e2,e3] at HE
 rw [eM]
 rw [e0] at H0
 rw [e1] at H1
 rw [e2] at H2
 rw [e3] at H3
 clear eM e0 e1 e2 e3
 cases b0 with
 | false =>
  go_enter Tryz.func92,Tryz.ntmps92
  go_wp2_with fail
  refine (H0.out _).mono ?_
  rintro e w1 ⟨rfl,rfl⟩
  go_wp2_with fail
  go_ret
  exact ⟨by rw [HE.out]; rfl,HS.out⟩
 | true =>
  cases b1 with
  | false =>
   go_enter Tryz.func92,Tryz.ntmps92
   go_wp2_with fail
   refine (H0.out _).mono ?_
   rintro e w1 ⟨rfl,rfl⟩
   go_wp2_with fail
   refine (H1.out _).mono ?_
   rintro e w2 ⟨rfl,rfl⟩
   go_wp2_with fail
   go_ret
   exact ⟨by rw [HE.out]; rfl,HS.out⟩
  | true =>
   cases b2 with
   | false =>
    go_enter Tryz.func92,Tryz.ntmps92
    go_wp2_with fail
    refine (H0.out _).mono ?_
    rintro e w1 ⟨rfl,rfl⟩
    go_wp2_with fail
    refine (H1.out _).mono ?_
    rintro e w2 ⟨rfl,rfl⟩
    go_wp2_with fail
    refine (H2.out _).mono ?_
    rintro e w3 ⟨rfl,rfl⟩
    go_wp2_with fail
    go_ret
    exact ⟨by rw [HE.out]; rfl,HS.out⟩
   | true =>
    go_enter Tryz.func92,Tryz.ntmps92
    go_wp2_with fail
    refine (H0.out _).mono ?_
    rintro e w1 ⟨rfl,rfl⟩
    go_wp2_with fail
    refine (H1.out _).mono ?_
    rintro e w2 ⟨rfl,rfl⟩
    go_wp2_with fail
    refine (H2.out _).mono ?_
    rintro e w3 ⟨rfl,rfl⟩
    go_wp2_with fail
    refine (H3.out _).mono ?_
    rintro e w4 ⟨rfl,rfl⟩
    go_wp2_with fail
    go_ret
    exact ⟨by rw [HE.out]; rfl,HS.out⟩
theorem schk_any (x:Scr) (w:World):Calls Tryz.prog 52 #[cv x] w fun e w'=>e=.returned (.int .i64 (chkC x))/\Still w w':=by
 have p:=newC_cb w x
 have HS:=hid (Still.alloc w (.cells (ccs x) 50))
 obtain ⟨c0,c1,c2,c3,cf⟩:=p.cells
 have H:=hid (fun w=>smay_any x w)
 have HE:Hid (chkC x=if mayC x then 0 else 120):=hid rfl
 obtain ⟨b,eb⟩:∃ b,mayC x=b:=⟨_,rfl⟩
 rw [eb] at H HE
 clear eb p
 cases b with
 | true =>
  go_enter Tryz.func52,Tryz.ntmps52
  go_wp2_with fail
  refine (H.out _).mono ?_
  rintro e w1 ⟨rfl,h1⟩
  have HS1:=hid (HS.out.trans h1)
  clear h1
  go_wp2_with fail
  go_ret
  exact ⟨by rw [HE.out]; rfl,HS1.out⟩
 | false =>
  go_enter Tryz.func52,Tryz.ntmps52
  go_wp2_with fail
  refine (H.out _).mono ?_
  rintro e w1 ⟨rfl,h1⟩
  have HS1:=hid (HS.out.trans h1)
  clear h1
  go_wp2_with fail
  go_ret
  exact ⟨by rw [HE.out]; rfl,HS1.out⟩
def F2C (w0 w:World) (a x:Scr):Prop:=Cb w w0.heap.size a/\Cb w (w0.heap.size+1) x/\Still w0 w
theorem F2C.new (w:World) (a:Scr):F2C w (newC (newC w a) zC) a zC:=by
 have A0:=Still.alloc w (.cells (ccs a) 50)
 have A1:=Still.alloc (newC w a) (.cells (ccs zC) 50)
 have q0:=newC_cb (newC w a) zC
 simp only [size_alloc] at q0
 exact ⟨(newC_cb w a).still A1,q0,A0.trans A1⟩
theorem F2C.on {w0 w w':World} {a x:Scr} (h:F2C w0 w a x) (hs:Still w w'):F2C w0 w' a x:=⟨h.1.still hs,h.2.1.still hs,h.2.2.trans hs⟩
theorem F2C.setA {w0 w:World} {a x a':Scr} (h:F2C w0 w a x) (o:Nat) (v:Value) (ha:Cb (w.setCell ⟨w0.heap.size,o,none⟩ v) w0.heap.size a'):F2C w0 (w.setCell ⟨w0.heap.size,o,none⟩ v) a' x :=
 ⟨ha,h.2.1.other _ _ _ (by omega),h.2.2.setCell _ _ (.inr (Nat.le_refl _))⟩
theorem Cb.res1 {fn:Func} {p:Tmp} {w:World} {g:Nat} {x:Scr} (hb:Cb w g x) (h:fn.results=#[.cell p 50]) (tmps:Array Value) (hp:tmps.getD p undef=.pointer (some ⟨g,0,none⟩)) :
  (results fn tmps).run Tryz.prog w=.ok (cv x) w:=by
 have hp':tmps[p]?.getD undef=.pointer (some ⟨g,0,none⟩):=by simpa using hp
 simp [results,h,hp',asAddr,hb.load]
theorem sgain_may (x:Scr) (n:Int) (hm:¬ MayC x) (w:World):Calls Tryz.prog 112 #[cv x,.int .i64 n] w fun e w'=>e=.returned (.tuple #[cv zC,.int .i64 120])/\Still w w':=by
 have F0:=F2C.new w x
 obtain ⟨c0,c1,c2,c3,cf⟩:=F0.1.cells
 have H:=hid (fun w=>smay_any x w)
 rw [mayC_no hm] at H
 clear hm
 go_enter Tryz.func112,Tryz.ntmps112
 go_wp2_with fail
 refine (H.out _).mono ?_
 rintro e w1 ⟨rfl,h1⟩
 have F1:=F0.on h1
 have HS1:Hid (Still w w1):=hid F1.2.2
 have q1:=F1.2.1
 clear h1 F0 F1 c0 c1 c2 c3 cf H
 obtain ⟨d0,d1,d2,d3,df⟩:=q1.cells
 go_wp2_with fail
 refine bodyPost_ret (Cb.rest (Cb.put q1 _ _ _ _) rfl _ _ rfl rfl) rfl ⟨rfl, ?_⟩
 repeat (first | refine setC_frC ?_ _ _ _ (by omega) | with_reducible exact HS1.out)
theorem sgain_arg (x:Scr) (n:Int) (hm:MayC x) (hn:¬ (0<=n/\n<=100)) (w:World):Calls Tryz.prog 112 #[cv x,.int .i64 n] w fun e w'=>e=.returned (.tuple #[cv zC,.int .i64 1])/\Still w w':=by
 have F0:=F2C.new w x
 obtain ⟨c0,c1,c2,c3,cf⟩:=F0.1.cells
 have H:=hid (fun w=>smay_any x w)
 rw [mayC_iff.2 hm] at H
 have HW:=hid (fun w=>xwithin_any n 0 100 w)
 rw [decide_eq_false hn] at HW
 clear hm hn
 go_enter Tryz.func112,Tryz.ntmps112
 go_wp2_with fail
 refine (H.out _).mono ?_
 rintro e w1 ⟨rfl,h1⟩
 have F1:=F0.on h1
 have HS1:Hid (Still w w1):=hid F1.2.2
 have q1:=F1.2.1
 clear h1 F0 F1 c0 c1 c2 c3 cf H
 obtain ⟨d0,d1,d2,d3,df⟩:=q1.cells
 go_wp2_with fail
 refine (HW.out _).mono ?_
 rintro e w2 ⟨rfl,rfl⟩
 go_wp2_with fail
 refine bodyPost_ret (Cb.rest (Cb.put q1 _ _ _ _) rfl _ _ rfl rfl) rfl ⟨rfl, ?_⟩
 repeat (first | refine setC_frC ?_ _ _ _ (by omega) | with_reducible exact HS1.out)
theorem sgain_ok (x:Scr) (n:Int) (hm:MayC x) (hn:0<=n/\n<=100) (w:World):Calls Tryz.prog 112 #[cv x,.int .i64 n] w fun e w'=>e=.returned (.tuple #[cv { x with p:=bdC (x.p+n) },.int .i64 0])/\Still w w':=by
 have F0:=F2C.new w x
 obtain ⟨c0,c1,c2,c3,cf⟩:=F0.1.cells
 have H:=hid (fun w=>smay_any x w)
 rw [mayC_iff.2 hm] at H
 have HW:=hid (fun w=>xwithin_any n 0 100 w)
 rw [decide_eq_true hn] at HW
 have HB:=hid (fun w=>ssum_any x.p n (by have:=hm.1; omega) (by have:=hm.1; omega) w)
 obtain ⟨v,ev⟩:∃ v,bdC (x.p+n)=v:=⟨_,rfl⟩
 rw [ev] at HB ⊢
 clear hm hn ev
 go_enter Tryz.func112,Tryz.ntmps112
 go_wp2_with fail
 refine (H.out _).mono ?_
 rintro e w1 ⟨rfl,h1⟩
 have F1:=F0.on h1
 clear h1 F0 c0 c1 c2 c3 cf H
 go_wp2_with fail
 refine (HW.out _).mono ?_
 rintro e w2 ⟨rfl,rfl⟩
 obtain ⟨c0,c1,c2,c3,cf⟩:=F1.1.cells
 go_wp2_with fail
 refine (HB.out _).mono ?_
 rintro e w3 ⟨he,hw⟩
 rw [he,hw]
 clear he hw w3 HB
 have F3:=F1.setA 0 (.int .i64 v) (F1.1.sp v)
 obtain ⟨W3,eW3⟩:∃ W3,w2.setCell ⟨w.heap.size,0,none⟩ (.int .i64 v)=W3:=⟨_,rfl⟩
 rw [eW3] at F3
 go_upto_region 6 with fail
 clear eW3 F1 c0 c1 c2 c3 cf
 have HS3:Hid (Still w W3):=hid F3.2.2
 have q3:=F3.2.1
 obtain ⟨c0,c1,c2,c3,cf⟩:=F3.1.cells
 clear F3
 obtain ⟨d0,d1,d2,d3,df⟩:=q3.cells
 go_wp2_with fail
 refine bodyPost_ret (Cb.rest (Cb.put q3 _ _ _ _) rfl _ _ rfl rfl) rfl ⟨rfl, ?_⟩
 repeat (first | refine setC_frC ?_ _ _ _ (by omega) | with_reducible exact HS3.out)
theorem sgain_any (x:Scr) (n:Int) (w:World):Calls Tryz.prog 112 #[cv x,.int .i64 n] w fun e w'=>e=.returned (.tuple #[cv (gain x n),.int .i64 (errG x n)])/\Still w w':=by
 by_cases hm:MayC x
 ·by_cases hn:0<=n/\n<=100
  ·have e:gain x n={ x with p:=bdC (x.p+n) }:=by unfold gain; rw [if_pos (errG_yes hm hn)]
   rw [e,errG_yes hm hn]
   exact sgain_ok x n hm hn w
  ·have e:gain x n=zC:=by unfold gain; rw [errG_arg hm hn]; rfl
   rw [e,errG_arg hm hn]
   exact sgain_arg x n hm hn w
 ·have e:gain x n=zC:=by unfold gain; rw [errG_may hm]; rfl
  rw [e,errG_may hm]
  exact sgain_may x n hm w
end Go.Proofs.YtlibdheihodniaaGreatDoor
