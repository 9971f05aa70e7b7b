/- Parts of the proof, laid end to end. -/
import Derived.Test.YtonchpgmdnekpaaGreatDoorZK01
set_option maxRecDepth 100000
namespace Go.Proofs.YtonchpgmdnekpaaGreatDoor
open Go.RowKit
open Pu Gp Ap
def okS (n:Nat) (I:Nat->Bool) (s:ByteArray) (i:Nat):Bool:=byt s i == 35 || (byt s i == 46 || (I i && (byt s i == 42 || (decide (byt s i - 48<=(n:Int)) && decide (fnd s (byt s i) (i+1)<0)))))
def allS (n:Nat) (I:Nat->Bool) (s:ByteArray):Nat->Bool
 | 0=>true
 | k+1=>allS n I s k && okS n I s k
theorem allS_more {n:Nat} {I:Nat->Bool} {s:ByteArray}:∀ {k m:Nat},k<=m->allS n I s k=false->allS n I s m=false
  | k, 0, h, e => by obtain rfl : k = 0 := by omega
                     exact e
  | k,m+1,h,e=>by
    by_cases x:k=m+1
    · subst x; exact e
    · rw [allS,allS_more (k:=k) (m:=m) (by omega) e]; rfl
theorem allS_congr {n:Nat} {I J:Nat->Bool} {s:ByteArray} (h:∀ i,I i=J i):∀ k,allS n I s k=allS n J s k
 | 0=>rfl
 | k+1=>by rw [allS,allS,allS_congr h k]; unfold okS; rw [h k]
def ChkV (C R:Int) (s:ByteArray) (v:Int):Prop :=
 (forB C R s=false/\v=61)\/(forB C R s=true/\mny s<2/\v=62) \/
 (forB C R s=true/\2<=mny s/\∃ (f:Nat) (I:Nat->Bool),fnd s 49 0=(f:Int)/\IsR C.toNat s.size s f I/\v=if allS (mny s) I s s.size then 0 else 62)
theorem chkV_one {C R:Int} {s:ByteArray} {v u:Int} (h:ChkV C R s v) (k:ChkV C R s u):v=u:=by
 rcases h with ⟨h1,rfl⟩ | ⟨h1,h2,rfl⟩ | ⟨h1,h2,f,I,h3,h4,rfl⟩ <;> rcases k with ⟨k1,rfl⟩ | ⟨k1,k2,rfl⟩ | ⟨k1,k2,g,J,k3,k4,rfl⟩
 ·rfl
 ·rw [h1] at k1; cases k1
 ·rw [h1] at k1; cases k1
 ·rw [h1] at k1; cases k1
 ·rfl
 ·omega
 ·rw [h1] at k1; cases k1
 ·omega
 ·have e:f=g:=by omega
  subst e
  rw [allS_congr (isR_one h4 k4)]
theorem mny_le (s:ByteArray):∀ f n,mnyF s f n<=n+f
 | 0,n=>by simp [mnyF]
 | f+1,n=>by
  rw [mnyF]
  split
  ·have:=mny_le s f (n+1); omega
  ·omega
theorem mny_one {s:ByteArray} (h:1<=mny s):∃ f:Nat,fnd s 49 0=(f:Int)/\f<s.size:=by
 unfold mny at h
 rw [mnyF] at h
 by_cases k:0<=fnd s (49+((0:Nat):Int)) 0
 ·rcases fnd_spec s 49 0 (by omega) with ⟨e,_⟩ | ⟨f,e,_,h2,_⟩
  ·rw [show (49:Int)+((0:Nat):Int)=49 by omega,e] at k
   omega
  ·exact ⟨f,e,h2⟩
 ·rw [if_neg k] at h
  omega
theorem goodN_iff {C R:Int} {s:ByteArray}:∀ {n:Nat},goodN C R s n=true->∀ i,i<n->goodC C R s i=true
 | 0,_,i,hi=>by omega
 | n+1,h,i,hi=>by
  rw [goodN,Bool.and_eq_true] at h
  by_cases e:i=n
  ·subst e; exact h.2
  ·exact goodN_iff h.1 i (by omega)
theorem form_sign {C R:Int} {s:ByteArray} (h:forB C R s=true) {i:Nat} (hi:i<s.size):byt s i=35\/byt s i=46\/byt s i=42\/(49<=byt s i/\byt s i<=54):=by
 unfold forB at h
 simp only [Bool.and_eq_true] at h
 have:=goodN_iff h.2.1 i hi
 unfold goodC okC at this
 simp only [Bool.or_eq_true,Bool.and_eq_true,beq_iff_eq,decide_eq_true_eq] at this
 omega
theorem form_shape {C R:Int} {s:ByteArray} (h:forB C R s=true):3<=C/\C<=32/\3<=R/\R<=24/\(s.size:Int)=C*R/\s.size<=768:=by
 unfold forB shaB at h
 simp only [Bool.and_eq_true] at h
 obtain ⟨h1,h2,h3,h4,h5⟩:=of_decide_eq_true h.1
 have:C*R<=32*24:=Int.mul_le_mul h2 h4 (by omega) (by omega)
 exact ⟨h1,h2,h3,h4,h5,by omega⟩
theorem rformed_is (C R:Int) (s:ByteArray) {t:Bool} (h:forB C R s=t) (w:World):Calls Tryz.prog 68 #[ar C R s] w fun e w'=>e=.returned (.bool t)/\Still w w':=by
 have:=rformed_any C R s w
 rw [h] at this
 exact this
theorem rchk1 (C R:Int) (s:ByteArray) (h:forB C R s=false) (w:World):Calls Tryz.prog 43 #[ar C R s] w fun e w'=>e=.returned (.int .i64 61)/\Still w w':=by
 go_enter Tryz.func43,Tryz.ntmps43
 go_wp2_with fail
 refine (rformed_is C R s h _).mono ?_
 rintro e w1 ⟨rfl,h1⟩
 go_wp2_with fail
 go_ret
 exact ⟨rfl,(Still.alloc w _).trans h1⟩
theorem rchk2 (C R:Int) (s:ByteArray) (hz:s.size<=281474976710656) (h:forB C R s=true) (hm:mny s<2) (w:World):Calls Tryz.prog 43 #[ar C R s] w fun e w'=>e=.returned (.int .i64 62)/\Still w w':=by
 have p:=newA_ab w C R s
 have H:=hid h
 clear h
 go_enter Tryz.func43,Tryz.ntmps43
 go_wp2_with fail
 refine (rformed_is C R s H.out _).mono ?_
 rintro e w1 ⟨rfl,h1⟩
 obtain ⟨c0,c1,c2,cf⟩:=(p.still h1).cells
 have HS1:=hid ((Still.alloc w (.cells #[.int .i64 C,.int .i64 R,.string s] 24)).trans h1)
 clear p h1
 go_wp2_with fail
 refine (rmany_any C R s hz _).mono ?_
 rintro e w2 ⟨rfl,h2⟩
 have HS2:=hid (HS1.out.trans h2)
 clear HS1 h2 c0 c1 c2 cf
 go_wp2_with fail
 go_ret
 exact ⟨rfl,HS2.out⟩
set_option maxHeartbeats 8000000 in
set_option maxRecDepth 100000 in
theorem rchk3 (C:Nat) (R:Int) (s:ByteArray) (h:forB (C:Int) R s=true) (hm:2<=mny s) (f:Nat) (hf:fnd s 49 0=(f:Int)) (hfs:f<s.size) (w:World) :
  Calls Tryz.prog 43 #[ar (C:Int) R s] w fun e w'=>∃ I,IsR C s.size s f I/\e=.returned (.int .i64 (if allS (mny s) I s s.size then 0 else 62))/\Still w w':=by
 obtain ⟨q1,q2,q3,q4,q5,q6⟩:=form_shape h
 have HG:=hid (fun i (hi:i<s.size)=>form_sign h hi)
 have p:=newA_ab w C R s
 have H:=hid h
 obtain ⟨n,en⟩:∃ n,mny s=n:=⟨_,rfl⟩
 have nl:n<=6:=by rw [<- en]; exact mny_le s 6 0
 have HN:=hid en
 rw [en] at hm ⊢
 have HM:Hid (∀ u:World,Calls Tryz.prog 69 #[ar (C:Int) R s] u fun e w'=>e=.returned (.int .i64 (n:Int))/\Still u w'):=hid (fun u=>by
  have:=rmany_any C R s (by omega) u
  rw [en] at this
  exact this)
 have HQ:Hid (∀ u:World,Calls Tryz.prog 71 #[.string s,.int .u8 49,.int .i64 0] u fun e w'=>e=.returned (.int .i64 (f:Int))/\w'=u):=hid (fun u=>by
  have:=rfind_any s 49 0 (by omega) (by omega) u
  rw [hf] at this
  exact this)
 clear h en hf
 go_enter Tryz.func43,Tryz.ntmps43
 go_wp2_with fail
 refine (rformed_is C R s H.out _).mono ?_
 rintro e w1 ⟨rfl,h1⟩
 have p1:=p.still h1
 have HS1:=hid ((Still.alloc w (.cells #[.int .i64 (C:Int),.int .i64 R,.string s] 24)).trans h1)
 clear p h1
 obtain ⟨c0,c1,c2,cf⟩:=p1.cells
 go_wp2_with fail
 refine (HM.out _).mono ?_
 rintro e w2 ⟨rfl,h2⟩
 have p2:=p1.still h2
 have HS2:=hid (HS1.out.trans h2)
 clear p1 HS1 h2 c0 c1 c2 cf HM
 have c0:=Cl.cell p2.cells.1
 have c1:=Cl.cell p2.cells.2.1
 have c2:=Cl.cell p2.cells.2.2.1
 have hne:=Aft.here w2
 go_wp2_with fail
 refine region_rest 4 (by kernel_rfl) (by kernel_rfl) ?_
 simp only [List.take_succ_cons,List.take_zero,List.drop_succ_cons,List.drop_zero]
 repeat (go_big_quiet_step ((go_at_call 71; exact Calls.cl_same (HQ.out _))))
 refine wpQuiet_nil ?_
 intro w3 h3
 have p3:=p2.still h3
 have HS3:=hid (HS2.out.trans h3)
 clear p2 HS2 h3 c0 c1 c2 hne HQ
 go_wp2_with fail
 refine (rreach_any C R s f (by omega) (by omega) q6 hfs _).mono ?_
 rintro e w4 ⟨g,I,rfl,hI,r4,h4⟩
 have p4:=p3.still h4
 have HS4:=hid (HS3.out.trans h4)
 have HI:=hid hI
 clear p3 HS3 h4 hI
 obtain ⟨c0,c1,c2,cf⟩:=p4.cells
 go_wp2_with fail
 go_loop [6] (fun v=>∃ i:Nat,i<=s.size/\v=.int .i64 (i:Int)/\allS n I s i=true) (fun v=>s.size - (intOf v).toNat)
 case atStart=>exact ⟨0,by omega,rfl,rfl⟩
 case round =>
  obtain ⟨i,hi,rfl,ha⟩:=hrel
  by_cases hlt:i<s.size
  ·have e:=byt_at s i hlt
   have k0:=r4.cell hlt
   have hg:=HG.out i hlt
   have hok:allS n I s (i+1)=okS n I s i:=by rw [allS,ha]; rfl
   have HX:Hid (okS n I s i=false->(62:Int)=if allS n I s s.size then 0 else 62):=hid (fun h=>by
    rw [allS_more (k:=i+1) (m:=s.size) (by omega) (hok.trans h)]
    rfl)
   obtain ⟨F,eF⟩:∃ F,fnd s (byt s i) (i+1)=F:=⟨_,rfl⟩
   have HC:Hid (∀ u:World,Calls Tryz.prog 71 #[.string s,.int .u8 (byt s i),.int .i64 ((i:Int)+1)] u fun e w'=>e=.returned (.int .i64 F)/\w'=u):=hid (fun u=>by
    have h:=rfind_any s (byt s i) (i+1) (by omega) (by omega) u
    rw [eF,show ((i+1:Nat):Int)=(i:Int)+1 by omega] at h
    exact h)
   have HD:Hid (okS n I s i=(byt s i == 35 || (byt s i == 46 || (I i && (byt s i == 42 || (decide (byt s i - 48<=(n:Int)) && decide (F<0))))))):=hid (by unfold okS; rw [eF])
   obtain ⟨b,eb⟩:∃ b,byt s i=b:=⟨_,rfl⟩
   rw [eb] at e hg HC HD
   have HO:=hid hok
   clear hok ha eF eb
   rcases hg with rfl | rfl | hg
   ·have HF:=hid (show allS n I s (i+1)=true by rw [HO.out,HD.out]; rfl)
    clear k0 HC HD HO HX
    go_wp2_with fail
    go_round
    case rel=>exact ⟨i+1,by omega,by go_num,HF.out⟩
    case measure=>simp [intOf]; omega
   ·have HF:=hid (show allS n I s (i+1)=true by rw [HO.out,HD.out]; rfl)
    clear k0 HC HD HO HX
    go_wp2_with fail
    go_round
    case rel=>exact ⟨i+1,by omega,by go_num,HF.out⟩
    case measure=>simp [intOf]; omega
   ·cases hI:I i with
    | false =>
     rw [hI] at k0
     have HF:=hid (HX.out (by rw [HD.out,hI]; rcases hg with rfl | ⟨g1,g2⟩ <;> simp <;> omega))
     have n35:(b == 35)=false:=by simp; omega
     have n46:(b == 46)=false:=by simp; omega
     clear hI HC HD HO HX hg
     go_wp2_with fail
     go_ret
     exact ⟨I,HI.out,ret_int HF.out,HS4.out⟩
    | true =>
     rw [hI] at k0
     rcases hg with rfl | ⟨g1,g2⟩
     ·have HF:=hid (show allS n I s (i+1)=true by rw [HO.out,HD.out,hI]; rfl)
      clear hI HC HD HO HX
      go_wp2_with fail
      go_round
      case rel=>exact ⟨i+1,by omega,by go_num,HF.out⟩
      case measure=>simp [intOf]; omega
     ·have n35:(b == 35)=false:=by simp; omega
      have n46:(b == 46)=false:=by simp; omega
      have n42:(b != 42)=true:=by simp; omega
      have wr8:IntKind.u8.wrap (b - 48)=b - 48:=by rw [IntKind.wrap_u8]; omega
      by_cases hn:b - 48<=(n:Int)
      ·have hn':decide ((n:Int)<b - 48)=false:=decide_eq_false (by omega)
       by_cases hF:F<0
       ·have HF:=hid (show allS n I s (i+1)=true by rw [HO.out,HD.out,hI]; simp [hn,hF])
        have hF':decide (0<=F)=false:=decide_eq_false (by omega)
        clear hI HD HO HX
        go_wp2_with (go_at_call 71; refine (HC.out _).mono ?_; rintro e w' ⟨he,hw⟩; rw [he,hw]; clear he hw w')
        go_round
        case rel=>exact ⟨i+1,by omega,by go_num,HF.out⟩
        case measure=>simp [intOf]; omega
       ·have HF:=hid (HX.out (by rw [HD.out,hI]; simp [hF]; omega))
        have hF':0<=F:=by omega
        clear hI HD HO HX
        go_wp2_with (go_at_call 71; refine (HC.out _).mono ?_; rintro e w' ⟨he,hw⟩; rw [he,hw]; clear he hw w')
        go_ret
        exact ⟨I,HI.out,ret_int HF.out,HS4.out⟩
      ·have HF:=hid (HX.out (by rw [HD.out,hI]; simp [hn]; omega))
       have hn':(n:Int)<b - 48:=by omega
       clear hI HC HD HO HX
       go_wp2_with fail
       go_ret
       exact ⟨I,HI.out,ret_int HF.out,HS4.out⟩
  ·have HF:=hid (show (0:Int)=if allS n I s s.size then 0 else 62 by
    rw [show s.size=i by omega,ha]; rfl)
   clear ha
   go_wp2_with fail
   go_ret
   exact ⟨I,HI.out,ret_int HF.out,HS4.out⟩
theorem rmapcheck_any (C R:Int) (s:ByteArray) (hz:s.size<=281474976710656) (w:World) :
  Calls Tryz.prog 43 #[ar C R s] w fun e w'=>∃ v,e=.returned (.int .i64 v)/\ChkV C R s v/\Still w w':=by
 cases h:forB C R s with
 | false =>
  refine (rchk1 C R s h w).mono ?_
  rintro e w1 ⟨rfl,h1⟩
  exact ⟨61,rfl,.inl ⟨h,rfl⟩,h1⟩
 | true =>
  by_cases hm:mny s<2
  ·refine (rchk2 C R s hz h hm w).mono ?_
   rintro e w1 ⟨rfl,h1⟩
   exact ⟨62,rfl,.inr (.inl ⟨h,hm,rfl⟩),h1⟩
  ·obtain ⟨f,hf,hfs⟩:=mny_one (s:=s) (by omega)
   have q:=(form_shape h).1
   have hc:C=(C.toNat:Int):=by omega
   have k:=rchk3 C.toNat R s (by rw [<- hc]; exact h) (by omega) f hf hfs w
   rw [<- hc] at k
   refine k.mono ?_
   rintro e w1 ⟨I,hI,rfl,h1⟩
   exact ⟨_,rfl,.inr (.inr ⟨h,by omega,f,I,hf,hI,rfl⟩),h1⟩
end Go.Proofs.YtonchpgmdnekpaaGreatDoor
set_option maxRecDepth 100000
namespace Go.Proofs.YtonchpgmdnekpaaGreatDoor
open Go.RowKit
open Pu Gp Ap
theorem load_ar (w:World) (g:Nat) (C R:Int) (s:ByteArray) (c0:w.cell? ⟨g,0,none⟩=some (.int .i64 C)) (c1:w.cell? ⟨g,1,none⟩=some (.int .i64 R)) (c2:w.cell? ⟨g,2,none⟩=some (.string s)) :
  (loadVar 24 ⟨g,0,none⟩).run Tryz.prog w=.ok (ar C R s) w:=by
 go_simp
theorem Ab.rest {fn:Func} {p q:Tmp} {w:World} {g:Nat} {C R:Int} {s:ByteArray} (hb:Ab w g C R s) (h:fn.results=#[.cell p 24,.tmp q]) (tmps:Array Value) (t:Value) (hp:tmps.getD p undef=.pointer (some ⟨g,0,none⟩)) (hq:tmps.getD q undef=t) :
  (results fn tmps).run Tryz.prog w=.ok (.tuple #[ar C R s,t]) w:=by
 rw [results_cell_tmp h,hp,hq]
 simp [asAddr,Result.andThen,load_ar w g C R s hb.cells.1 hb.cells.2.1 hb.cells.2.2.1]
def std3:ByteArray:=⟨#[35,35,35,35,35,35,35,35,35,49,46,46,46,46,50,35,35,46,46,42,42,46,46,35,35,46,46,46,46,46,46,35,35,51,46,46,46,46,52,35,35,35,35,35,35,35,35,35]⟩
theorem rstd_3 (w:World):Calls Tryz.prog 28 #[.int .i64 3] w fun e w'=>e=.returned (.tuple #[ar 8 6 std3,.int .i64 0])/\Still w w':=by
 have p:=newA_ab w 8 6 std3
 go_enter Tryz.func28,Tryz.ntmps28
 go_wp2_with fail
 exact bodyPost_ret (p.rest rfl _ _ rfl rfl) rfl ⟨rfl,Still.alloc w _⟩
end Go.Proofs.YtonchpgmdnekpaaGreatDoor
set_option maxRecDepth 100000
namespace Go.Proofs.YtonchpgmdnekpaaGreatDoor
open Go.RowKit
open Pu Gp Ap
theorem chkV_ok {C R:Int} {s:ByteArray} (h:ChkV C R s 0):forB C R s=true:=by
 rcases h with ⟨_,e⟩ | ⟨_,_,e⟩ | ⟨h,_⟩
 ·cases e
 ·cases e
 ·exact h
end Go.Proofs.YtonchpgmdnekpaaGreatDoor
set_option maxRecDepth 100000
namespace Go.Proofs.YtonchpgmdnekpaaGreatDoor
open Go.RowKit
open Pu Gp
set_option maxHeartbeats 1000000 in
theorem meet3 (a b c d a' b' c' d':Int) (h1:okb a b c d=true) (h2:okb a' b' c' d'=true) (h3:okb (max a a') (max b b') (min c c') (min d d')=false) (w:World):Calls Tryz.prog 219 #[bx a b c d,bx a' b' c' d'] w fun e w'=>e=.returned (.tuple #[bx 0 0 0 0,.bool false])/\Still w w':=by
 have p:=((newB_bb w a b c d).still (Still.alloc (newB w a b c d) (.cells #[.int .i64 a',.int .i64 b',.int .i64 c',.int .i64 d'] 219))).still (Still.alloc (newB (newB w a b c d) a' b' c' d') (.cells #[.int .i64 0,.int .i64 0,.int .i64 0,.int .i64 0] 219))
 have q:=(newB_bb (newB w a b c d) a' b' c' d').still (Still.alloc (newB (newB w a b c d) a' b' c' d') (.cells #[.int .i64 0,.int .i64 0,.int .i64 0,.int .i64 0] 219))
 have r:=newB_bb (newB (newB w a b c d) a' b' c' d') 0 0 0 0
 simp only [size_alloc] at q r
 have HS0:=hid (((Still.alloc w (.cells #[.int .i64 a,.int .i64 b,.int .i64 c,.int .i64 d] 219)).trans (Still.alloc (newB w a b c d) (.cells #[.int .i64 a',.int .i64 b',.int .i64 c',.int .i64 d'] 219))).trans (Still.alloc (newB (newB w a b c d) a' b' c' d') (.cells #[.int .i64 0,.int .i64 0,.int .i64 0,.int .i64 0] 219)))
 have HB:=hid (show w.heap.size<=w.heap.size+1+1 by omega)
 go_enter Tryz.func219,Tryz.ntmps219
 go_wp2_with fail
 refine (check_yes a b c d h1 _).mono ?_
 rintro e w1 ⟨rfl,hs1⟩
 have p1:=p.still hs1
 have q1:=q.still hs1
 have r1:=r.still hs1
 have HF1:=hid (HS0.out.trans hs1)
 clear p q r HS0 hs1
 obtain ⟨c0,c1,c2,c3,cf⟩:=p1.cells
 obtain ⟨g0,g1,g2,g3,gf⟩:=q1.cells
 obtain ⟨d0,d1,d2,d3,df⟩:=r1.cells
 go_wp2_with fail
 refine (check_yes a' b' c' d' h2 _).mono ?_
 rintro e w2 ⟨rfl,hs2⟩
 have p2:=p1.still hs2
 have q2:=q1.still hs2
 have r2:=r1.still hs2
 have HF2:=hid (HF1.out.trans hs2)
 clear p1 q1 r1 HF1 hs2 c0 c1 c2 c3 cf g0 g1 g2 g3 gf d0 d1 d2 d3 df
 go_wp2_with fail
 refine region_var (on:=_) 11 6 (.cells #[.int .i64 0,.int .i64 0,.int .i64 0,.int .i64 0] 219)
  [.pointer (some ⟨w.heap.size,0,none⟩),pt a b,.pointer (some ⟨w.heap.size+1,0,none⟩),pt a' b',pt (max a a') (max b b'),.pointer (some ⟨w.heap.size,2,none⟩),pt c d,.pointer (some ⟨w.heap.size+1,2,none⟩),pt c' d',pt (min c c') (min d d'),bx (max a a') (max b b') (min c c') (min d d')]
  ⟨#[bx a b c d,bx a' b' c' d',.pointer (some ⟨w.heap.size,0,none⟩),.pointer (some ⟨w.heap.size+1,0,none⟩),.pointer (some ⟨w.heap.size+1+1,0,none⟩),.bool false,undef,bx a b c d,.int .i64 0,.bool false,.bool false,bx a' b' c' d',.int .i64 0,.bool false,.bool false,undef,
   .pointer (some ⟨w.heap.size,0,none⟩),pt a b,.pointer (some ⟨w.heap.size+1,0,none⟩),pt a' b',pt (max a a') (max b b'),.pointer (some ⟨w.heap.size,2,none⟩),pt c d,.pointer (some ⟨w.heap.size+1,2,none⟩),pt c' d',pt (min c c') (min d d'),bx (max a a') (max b b') (min c c') (min d d'),undef,undef,undef,undef,undef],[]⟩
  (by kernel_rfl) (by kernel_rfl) rfl rfl rfl (by kernel_rfl) (by kernel_rfl) (show 6<32 by omega) ?_ ?_ ?_
 ·simp only [List.take_succ_cons,List.take_zero,wpEach,and_true]
  refine ⟨?_, ?_, ?_, ?_, ?_, ?_, ?_, ?_, ?_, ?_, ?_⟩
  all_goals
   intro u hu
   obtain ⟨c0,c1,c2,c3,cf⟩:=(p2.still hu).cells
   obtain ⟨g0,g1,g2,g3,gf⟩:=(q2.still hu).cells
   go_simp
  ·exact greater_any _ _ _ _ _
  ·exact lesser_any _ _ _ _ _
 ·intro u _ y
  go_simp
 simp only [List.drop_succ_cons,List.drop_zero]
 intro w3 g hs3 hge hz
 have hne:w.heap.size+1+1≠g:=by have:=block_lt r2; omega
 have HG:=hid (show w.heap.size<=g by have:=block_lt r2; omega)
 have r3:=r2.still hs3
 have HF3:=hid (HF2.out.trans hs3)
 have k3:Bb w3 g 0 0 0 0:=hz
 obtain ⟨k0,k1,k2,k4,kf⟩:=k3.cells
 have k5:=k3.set (max a a') (max b b') (min c c') (min d d')
 have r5:Bb (setB w3 g (max a a') (max b b') (min c c') (min d d')) (w.heap.size+1+1) 0 0 0 0:=by
  unfold Bb
  rw [heap_setCell_other _ _ _ _ hne,heap_setCell_other _ _ _ _ hne,heap_setCell_other _ _ _ _ hne,heap_setCell_other _ _ _ _ hne]
  exact r3
 have HF5:=hid (setB_fr HF3.out g (max a a') (max b b') (min c c') (min d d') (.inr HG.out))
 clear p2 q2 r2 HF2 hs3 hz hge hne HG r3 HF3 k3
 simp only [Act.put,List.setIfInBounds_toArray,List.set_cons_succ,List.set_cons_zero]
 go_wp2_with fail
 refine (check_no _ _ _ _ h3 _).mono ?_
 rintro e w4 ⟨rfl,hs4⟩
 have r4:=r5.still hs4
 have k4:=k5.still hs4
 have HF4:=hid (Still.trans HF5.out hs4)
 clear r5 k5 HF5 hs4
 obtain ⟨d0,d1,d2,d3,df⟩:=r4.cells
 obtain ⟨k0,k1,k2,k3,kf⟩:=k4.cells
 go_wp2_with fail
 (try simp only [Exit.inBlock,Exit.then])
 exact bodyPost_ret ((r4.set _ _ _ _).resb rfl _ _ rfl rfl) rfl ⟨rfl,setB_fr HF4.out _ _ _ _ _ (.inr HB.out)⟩
set_option maxHeartbeats 1000000 in
theorem meet4 (a b c d a' b' c' d':Int) (h1:okb a b c d=true) (h2:okb a' b' c' d'=true) (h3:okb (max a a') (max b b') (min c c') (min d d')=true) (w:World):Calls Tryz.prog 219 #[bx a b c d,bx a' b' c' d'] w fun e w'=>e=.returned (.tuple #[bx (max a a') (max b b') (min c c') (min d d'),.bool true])/\Still w w':=by
 have p:=((newB_bb w a b c d).still (Still.alloc (newB w a b c d) (.cells #[.int .i64 a',.int .i64 b',.int .i64 c',.int .i64 d'] 219))).still (Still.alloc (newB (newB w a b c d) a' b' c' d') (.cells #[.int .i64 0,.int .i64 0,.int .i64 0,.int .i64 0] 219))
 have q:=(newB_bb (newB w a b c d) a' b' c' d').still (Still.alloc (newB (newB w a b c d) a' b' c' d') (.cells #[.int .i64 0,.int .i64 0,.int .i64 0,.int .i64 0] 219))
 have r:=newB_bb (newB (newB w a b c d) a' b' c' d') 0 0 0 0
 simp only [size_alloc] at q r
 have HS0:=hid (((Still.alloc w (.cells #[.int .i64 a,.int .i64 b,.int .i64 c,.int .i64 d] 219)).trans (Still.alloc (newB w a b c d) (.cells #[.int .i64 a',.int .i64 b',.int .i64 c',.int .i64 d'] 219))).trans (Still.alloc (newB (newB w a b c d) a' b' c' d') (.cells #[.int .i64 0,.int .i64 0,.int .i64 0,.int .i64 0] 219)))
 have HB:=hid (show w.heap.size<=w.heap.size+1+1 by omega)
 go_enter Tryz.func219,Tryz.ntmps219
 go_wp2_with fail
 refine (check_yes a b c d h1 _).mono ?_
 rintro e w1 ⟨rfl,hs1⟩
 have p1:=p.still hs1
 have q1:=q.still hs1
 have r1:=r.still hs1
 have HF1:=hid (HS0.out.trans hs1)
 clear p q r HS0 hs1
 obtain ⟨c0,c1,c2,c3,cf⟩:=p1.cells
 obtain ⟨g0,g1,g2,g3,gf⟩:=q1.cells
 obtain ⟨d0,d1,d2,d3,df⟩:=r1.cells
 go_wp2_with fail
 refine (check_yes a' b' c' d' h2 _).mono ?_
 rintro e w2 ⟨rfl,hs2⟩
 have p2:=p1.still hs2
 have q2:=q1.still hs2
 have r2:=r1.still hs2
 have HF2:=hid (HF1.out.trans hs2)
 clear p1 q1 r1 HF1 hs2 c0 c1 c2 c3 cf g0 g1 g2 g3 gf d0 d1 d2 d3 df
 go_wp2_with fail
 refine region_var (on:=_) 11 6 (.cells #[.int .i64 0,.int .i64 0,.int .i64 0,.int .i64 0] 219)
  [.pointer (some ⟨w.heap.size,0,none⟩),pt a b,.pointer (some ⟨w.heap.size+1,0,none⟩),pt a' b',pt (max a a') (max b b'),.pointer (some ⟨w.heap.size,2,none⟩),pt c d,.pointer (some ⟨w.heap.size+1,2,none⟩),pt c' d',pt (min c c') (min d d'),bx (max a a') (max b b') (min c c') (min d d')]
  ⟨#[bx a b c d,bx a' b' c' d',.pointer (some ⟨w.heap.size,0,none⟩),.pointer (some ⟨w.heap.size+1,0,none⟩),.pointer (some ⟨w.heap.size+1+1,0,none⟩),.bool false,undef,bx a b c d,.int .i64 0,.bool false,.bool false,bx a' b' c' d',.int .i64 0,.bool false,.bool false,undef,
   .pointer (some ⟨w.heap.size,0,none⟩),pt a b,.pointer (some ⟨w.heap.size+1,0,none⟩),pt a' b',pt (max a a') (max b b'),.pointer (some ⟨w.heap.size,2,none⟩),pt c d,.pointer (some ⟨w.heap.size+1,2,none⟩),pt c' d',pt (min c c') (min d d'),bx (max a a') (max b b') (min c c') (min d d'),undef,undef,undef,undef,undef],[]⟩
  (by kernel_rfl) (by kernel_rfl) rfl rfl rfl (by kernel_rfl) (by kernel_rfl) (show 6<32 by omega) ?_ ?_ ?_
 ·simp only [List.take_succ_cons,List.take_zero,wpEach,and_true]
  refine ⟨?_, ?_, ?_, ?_, ?_, ?_, ?_, ?_, ?_, ?_, ?_⟩
  all_goals
   intro u hu
   obtain ⟨c0,c1,c2,c3,cf⟩:=(p2.still hu).cells
   obtain ⟨g0,g1,g2,g3,gf⟩:=(q2.still hu).cells
   go_simp
  ·exact greater_any _ _ _ _ _
  ·exact lesser_any _ _ _ _ _
 ·intro u _ y
  go_simp
 simp only [List.drop_succ_cons,List.drop_zero]
 intro w3 g hs3 hge hz
 have hne:w.heap.size+1+1≠g:=by have:=block_lt r2; omega
 have HG:=hid (show w.heap.size<=g by have:=block_lt r2; omega)
 have r3:=r2.still hs3
 have HF3:=hid (HF2.out.trans hs3)
 have k3:Bb w3 g 0 0 0 0:=hz
 obtain ⟨k0,k1,k2,k4,kf⟩:=k3.cells
 have k5:=k3.set (max a a') (max b b') (min c c') (min d d')
 have r5:Bb (setB w3 g (max a a') (max b b') (min c c') (min d d')) (w.heap.size+1+1) 0 0 0 0:=by
  unfold Bb
  rw [heap_setCell_other _ _ _ _ hne,heap_setCell_other _ _ _ _ hne,heap_setCell_other _ _ _ _ hne,heap_setCell_other _ _ _ _ hne]
  exact r3
 have HF5:=hid (setB_fr HF3.out g (max a a') (max b b') (min c c') (min d d') (.inr HG.out))
 clear p2 q2 r2 HF2 hs3 hz hge hne HG r3 HF3 k3
 simp only [Act.put,List.setIfInBounds_toArray,List.set_cons_succ,List.set_cons_zero]
 go_wp2_with fail
 refine (check_yes _ _ _ _ h3 _).mono ?_
 rintro e w4 ⟨rfl,hs4⟩
 have r4:=r5.still hs4
 have k4:=k5.still hs4
 have HF4:=hid (Still.trans HF5.out hs4)
 clear r5 k5 HF5 hs4
 obtain ⟨d0,d1,d2,d3,df⟩:=r4.cells
 obtain ⟨k0,k1,k2,k3,kf⟩:=k4.cells
 go_wp2_with fail
 (try simp only [Exit.inBlock,Exit.then])
 exact bodyPost_ret ((r4.set _ _ _ _).resb rfl _ _ rfl rfl) rfl ⟨rfl,setB_fr HF4.out _ _ _ _ _ (.inr HB.out)⟩
theorem meet_any (a b c d a' b' c' d':Int) (w:World):Calls Tryz.prog 219 #[bx a b c d,bx a' b' c' d'] w fun e w'=>e=.returned (.tuple #[mb a b c d a' b' c' d',.bool (mt a b c d a' b' c' d')])/\Still w w':=by
 unfold mb mt
 cases h1:okb a b c d with
 | false=>exact meet1 a b c d a' b' c' d' h1 w
 | true =>
  cases h2:okb a' b' c' d' with
  | false=>exact meet2 a b c d a' b' c' d' h1 h2 w
  | true =>
   cases h3:okb (max a a') (max b b') (min c c') (min d d') with
   | false=>exact meet3 a b c d a' b' c' d' h1 h2 h3 w
   | true=>exact meet4 a b c d a' b' c' d' h1 h2 h3 w
theorem overlap_any (a b c d a' b' c' d':Int) (w:World):Calls Tryz.prog 167 #[bx a b c d,bx a' b' c' d'] w fun e w'=>e=.returned (.bool (mt a b c d a' b' c' d'))/\Still w w':=by
 go_enter Tryz.func167,Tryz.ntmps167
 go_wp2_with fail
 refine (meet_any a b c d a' b' c' d' _).mono ?_
 rintro e w1 ⟨rfl,hs1⟩
 go_wp2_with fail
 go_ret
 exact ⟨rfl,(((Still.alloc w _).trans (Still.alloc _ _)).trans hs1).trans (Still.alloc _ _)⟩
theorem inside_any (a b c d x y:Int) (w:World):Calls Tryz.prog 176 #[bx a b c d,pt x y] w fun e w'=>e=.returned (.bool (mt a b c d x y x y))/\Still w w':=by
 go_enter Tryz.func176,Tryz.ntmps176
 go_wp2_with fail
 refine (overlap_any a b c d x y x y _).mono ?_
 rintro e w1 ⟨rfl,hs1⟩
 go_wp2_with fail
 go_ret
 exact ⟨rfl,((Still.alloc w _).trans (Still.alloc _ _)).trans hs1⟩
end Go.Proofs.YtonchpgmdnekpaaGreatDoor
set_option maxRecDepth 100000
namespace Go.Proofs.YtonchpgmdnekpaaGreatDoor
open Go.RowKit
open Pu Gp
end Go.Proofs.YtonchpgmdnekpaaGreatDoor
set_option maxRecDepth 100000
namespace Go.Proofs.YtonchpgmdnekpaaGreatDoor
open Go.RowKit
open Pu Gp Ap
def linB (t:ByteArray):ByteArray:=if fnd t 10 0<0 then t else t.extract 0 (fnd t 10 0).toNat
def linOk (C R:Nat) (t:ByteArray):Bool :=
 decide (0<=fnd t 10 0) && (sgnsB (linB t) (linB t).size && ((if R=0 then decide (3<=(linB t).size) && decide ((linB t).size<=32) else decide ((linB t).size=C)) && decide (R≠24)))
def prs:Nat->Nat->Nat->ByteArray->ByteArray->Sum Nat (Nat × Nat × ByteArray)
 | 0,_,R,_,_=>.inl (R+1)
 | f+1,C,R,S,t =>
  if R≠0/\t.size=0 then .inr (C,R,S)
  else if linOk C R t then prs f (linB t).size (R+1) (S ++ linB t) (t.extract ((linB t).size+1) t.size)
  else .inl (R+1)
end Go.Proofs.YtonchpgmdnekpaaGreatDoor
