import Derived.Test.YthcjckgmdokmdaaGreatDoorXQ09
import Derived.Deep.DeepCutAuto
import Derived.Deep.RegionHeld3
namespace Go.Proofs.YthcjckgmdokmdaaGreatDoor
open Go.RowKit
open Ea
set_option maxRecDepth 100000
theorem Wl (n a b:Int) (w:World):Yb 194 #[.int .i64 n,.int .i64 a,.int .i64 b] w (.bool (decide (a<=n/\n<=b))):=by
 by_cases h1:a<=n
 ·by_cases h2:n<=b
  ·rw [show decide (a<=n/\n<=b)=true by simp; omega];go_enter Tryz.func194,Tryz.ntmps194;go_wp2_with fail;go_ret;exact ⟨rfl,rfl⟩
  ·rw [show decide (a<=n/\n<=b)=false by simp; omega];go_enter Tryz.func194,Tryz.ntmps194;go_wp2_with fail;go_ret;exact ⟨rfl,rfl⟩
 ·rw [show decide (a<=n/\n<=b)=false by simp; omega];go_enter Tryz.func194,Tryz.ntmps194;go_wp2_with fail;go_ret;exact ⟨rfl,rfl⟩
theorem Qv (n:Int) (w:World):Yb 195 #[.int .i64 n] w (.bool (decide (0<=n/\n<=2147483647))):=by
 have H:=hid (fun w=>Wl n 0 2147483647 w);obtain ⟨b,eb⟩:∃ b,decide (0<=n/\n<=2147483647)=b:=⟨_,rfl⟩;rw [eb] at H ⊢;clear eb;go_enter Tryz.func195,Tryz.ntmps195;go_wp2_with fail;refine (H.o _).mono ?_;rintro e w1 ⟨rfl,rfl⟩;go_wp2_with fail;go_ret;exact ⟨rfl,rfl⟩
theorem AN (x:Scr):Xn x=(decide (-2147483647<=x.p/\x.p<=2147483647) && (decide (0<=x.h/\x.h<=2147483647) && (decide (0<=x.o/\x.o<=2147483647) && decide (0<=x.k/\x.k<=2147483647)))):=by
 rw [Bool.eq_iff_iff,mayC_iff];unfold Yt;simp only [Bool.and_eq_true,decide_eq_true_eq]
theorem AO (x:Scr) (w:World):Ya 172 #[cv x] w (.bool (Xn x)):=by
 have p:=ZK w x;have HS:=hid (aL w (.cells (ccs x) 61));obtain ⟨c0,c1,c2,c3,cf⟩:=p.cells;clear p;have H0:=hid (fun w=>Wl x.p (-2147483647) 2147483647 w);have H1:=hid (fun w=>Qv x.h w);have H2:=hid (fun w=>Qv x.o w);have H3:=hid (fun w=>Qv x.k w);have HE:=hid (AN x);obtain ⟨M,eM⟩:∃ b,Xn x=b:=⟨_,rfl⟩;obtain ⟨b0,e0⟩:∃ b,decide (-2147483647<=x.p/\x.p<=2147483647)=b:=⟨_,rfl⟩;obtain ⟨b1,e1⟩:∃ b,decide (0<=x.h/\x.h<=2147483647)=b:=⟨_,rfl⟩;obtain ⟨b2,e2⟩:∃ b,decide (0<=x.o/\x.o<=2147483647)=b:=⟨_,rfl⟩;obtain ⟨b3,e3⟩:∃ b,decide (0<=x.k/\x.k<=2147483647)=b:=⟨_,rfl⟩;rw [eM,e0,e1,e2,e3] at HE;rw [eM];rw [e0] at H0;rw [e1] at H1;rw [e2] at H2;rw [e3] at H3;clear eM e0 e1 e2 e3;cases b0 with
 | false =>
  go_enter Tryz.func172,Tryz.ntmps172;go_wp2_with fail;refine (H0.o _).mono ?_;rintro e w1 ⟨rfl,rfl⟩;go_wp2_with fail;go_ret;exact ⟨by rw [HE.o]; rfl,HS.o⟩
 | true =>
  cases b1 with
  | false =>
   go_enter Tryz.func172,Tryz.ntmps172;go_wp2_with fail;refine (H0.o _).mono ?_;rintro e w1 ⟨rfl,rfl⟩;go_wp2_with fail;refine (H1.o _).mono ?_;rintro e w2 ⟨rfl,rfl⟩;go_wp2_with fail;go_ret;exact ⟨by rw [HE.o]; rfl,HS.o⟩
  | true =>
   cases b2 with
   | false =>
    go_enter Tryz.func172,Tryz.ntmps172;go_wp2_with fail;refine (H0.o _).mono ?_;rintro e w1 ⟨rfl,rfl⟩;go_wp2_with fail;refine (H1.o _).mono ?_;rintro e w2 ⟨rfl,rfl⟩;go_wp2_with fail;refine (H2.o _).mono ?_;rintro e w3 ⟨rfl,rfl⟩;go_wp2_with fail;go_ret;exact ⟨by rw [HE.o]; rfl,HS.o⟩
   | true =>
    go_enter Tryz.func172,Tryz.ntmps172;go_wp2_with fail;refine (H0.o _).mono ?_;rintro e w1 ⟨rfl,rfl⟩;go_wp2_with fail;refine (H1.o _).mono ?_;rintro e w2 ⟨rfl,rfl⟩;go_wp2_with fail;refine (H2.o _).mono ?_;rintro e w3 ⟨rfl,rfl⟩;go_wp2_with fail;refine (H3.o _).mono ?_;rintro e w4 ⟨rfl,rfl⟩;go_wp2_with fail;go_ret;exact ⟨by rw [HE.o]; rfl,HS.o⟩
theorem AP (x:Scr) (w:World):Ya 136 #[cv x] w (.int .i64 (Y8 x)):=by
 have p:=ZK w x;have HS:=hid (aL w (.cells (ccs x) 61));obtain ⟨c0,c1,c2,c3,cf⟩:=p.cells;have H:=hid (fun w=>AO x w);have HE:Hid (Y8 x=if Xn x then 0 else 120):=hid rfl;obtain ⟨b,eb⟩:∃ b,Xn x=b:=⟨_,rfl⟩;rw [eb] at H HE;clear eb p;cases b with
 | true =>
  go_enter Tryz.func136,Tryz.ntmps136;go_wp2_with fail;refine (H.o _).mono ?_;rintro e w1 ⟨rfl,h1⟩;have HS1:=hid (HS.o.trans h1);clear h1;go_wp2_with fail;go_ret;exact ⟨by rw [HE.o]; rfl,HS1.o⟩
 | false =>
  go_enter Tryz.func136,Tryz.ntmps136;go_wp2_with fail;refine (H.o _).mono ?_;rintro e w1 ⟨rfl,h1⟩;have HS1:=hid (HS.o.trans h1);clear h1;go_wp2_with fail;go_ret;exact ⟨by rw [HE.o]; rfl,HS1.o⟩
end Go.Proofs.YthcjckgmdokmdaaGreatDoor
