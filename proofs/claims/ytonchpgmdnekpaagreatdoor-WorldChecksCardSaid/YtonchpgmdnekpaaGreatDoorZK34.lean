/- Parts of the proof, laid end to end. -/
import Derived.Test.YtonchpgmdnekpaaGreatDoorZK32
import Derived.Test.YtonchpgmdnekpaaGreatDoorZK33
namespace Go.Proofs.YtonchpgmdnekpaaGreatDoor
open Go.RowKit
open Pu Gp Ap Vp Np Za Ka Ja Ea Ha Hg Hi
set_option maxRecDepth 100000
theorem sl_init {α:Type} {K:Kd α} {e:TypeId} {w:World} {B g n cap:Nat} {L:List α} {x:α} (h:OwG K e w B (.slice (some ⟨g,0,none⟩) (n+1) cap) (L ++ [x])) (hl:L.length=n) (hm:n<=281474976710656):Sl K w (.slice (some ⟨g,0,none⟩) n cap) L:=by
 subst hl
 exact ⟨_,cap,rfl,owG_cap h,fun h=>(by cases h),h.rd hm⟩
set_option maxHeartbeats 8000000 in
theorem checks_any (p q C R:Int) (s:ByteArray) (lo:Option Addr) (ln lc:Nat) (K:Int) (W:Wd) (v:Value) (w:World) (ht:Tab w) (hd:DTab w) (hv:RdW w v W) (hb:(W.ms.length+1)*104<=140737488355328/\(W.cs.length+1)*32<=140737488355328/\(W.hs.length+1)*64<=140737488355328/\(W.ks.length+1)*24<=140737488355328)
  (hck:∀ u,Still w u->∀ v,RdW u v W->Calls Tryz.prog 7 #[.agg #[.int .i64 p,.int .u64 q,.int .i64 C,.int .i64 R,.string s,.slice lo ln lc],v] u fun e w'=>e=.returned (.int .i64 K)/\Still u w')
  (hdk:∀ u,Still w u->∀ v,RdW u v W->Calls Tryz.prog 9 #[.agg #[.int .i64 p,.int .u64 q,.int .i64 C,.int .i64 R,.string s,.slice lo ln lc],v] u fun e w'=>e=.returned (.int .i64 K)/\Still u w') :
  Calls Tryz.prog 3 #[.agg #[.int .i64 p,.int .u64 q,.int .i64 C,.int .i64 R,.string s,.slice lo ln lc],v] w fun e w'=>e=.returned (.bool true)/\Still w w':=by
 have HCk:=hid hck
 have HDk:=hid hdk
 have HT:=hid ht
 have HDt:=hid hd
 have HV:=hid hv
 obtain ⟨a,b,c,d,rfl,⟨xa,ya,rfl,l1,ha,hra⟩,⟨xb,yb,rfl,l2,hb0,hrb⟩,⟨xc,yc,rfl,l3,hc0,hrc⟩,⟨xd,yd,rfl,l4,hd0,hrd⟩⟩:=hv
 have HRa:=hid hra
 have HRb:=hid hrb
 have HRc:=hid hrc
 have HRd:=hid hrd
 clear l1 l2 l3 l4 ha hb0 hc0 hd0 hra hrb hrc hrd hck hdk ht hd
 obtain ⟨k1,e1⟩:∃ n,W.ms.length=n:=⟨_,rfl⟩
 obtain ⟨k2,e2⟩:∃ n,W.cs.length=n:=⟨_,rfl⟩
 obtain ⟨k3,e3⟩:∃ n,W.hs.length=n:=⟨_,rfl⟩
 obtain ⟨k4,e4⟩:∃ n,W.ks.length=n:=⟨_,rfl⟩
 obtain ⟨fr,e5⟩:∃ n,W.fr=n:=⟨_,rfl⟩
 obtain ⟨nx,e6⟩:∃ n,W.nx=n:=⟨_,rfl⟩
 rw [e1,e2,e3,e4,e5,e6] at HV ⊢
 rw [e1] at HRa
 rw [e2] at HRb
 rw [e3] at HRc
 rw [e4] at HRd
 rw [e1,e2,e3,e4] at hb
 have EL:=hid (And.intro e1 (And.intro e2 (And.intro e3 (And.intro e4 (And.intro e5 e6)))))
 have HBd:=hid hb
 clear e1 e2 e3 e4 e5 e6 hb
 have A0:=Still.alloc w (.cells #[.int .i64 p,.int .u64 q,.int .i64 C,.int .i64 R,.string s,.slice lo ln lc] 27)
 have A1:=Still.alloc (w.alloc (.cells #[.int .i64 p,.int .u64 q,.int .i64 C,.int .i64 R,.string s,.slice lo ln lc] 27)) (.cells (wdcs fr nx (.slice xa k1 ya) (.slice xb k2 yb) (.slice xc k3 yc) (.slice xd k4 yd)) 33)
 have w0:=newWd_wb (w.alloc (.cells #[.int .i64 p,.int .u64 q,.int .i64 C,.int .i64 R,.string s,.slice lo ln lc] 27)) fr nx (.slice xa k1 ya) (.slice xb k2 yb) (.slice xc k3 yc) (.slice xd k4 yd)
 rw [size_alloc] at w0
 have HS0:Hid (Still w ((w.alloc (.cells #[.int .i64 p,.int .u64 q,.int .i64 C,.int .i64 R,.string s,.slice lo ln lc] 27)).alloc (.cells (wdcs fr nx (.slice xa k1 ya) (.slice xb k2 yb) (.slice xc k3 yc) (.slice xd k4 yd)) 33))):=hid (A0.trans A1)
 have HP0:Hid (Cfb ((w.alloc (.cells #[.int .i64 p,.int .u64 q,.int .i64 C,.int .i64 R,.string s,.slice lo ln lc] 27)).alloc (.cells (wdcs fr nx (.slice xa k1 ya) (.slice xb k2 yb) (.slice xc k3 yc) (.slice xd k4 yd)) 33)) w.heap.size ⟨p,q,C,R,s,.slice lo ln lc⟩):=hid ((newCf_cb w ⟨p,q,C,R,s,.slice lo ln lc⟩).still A1)
 have HW0:Hid (Wdb ((w.alloc (.cells #[.int .i64 p,.int .u64 q,.int .i64 C,.int .i64 R,.string s,.slice lo ln lc] 27)).alloc (.cells (wdcs fr nx (.slice xa k1 ya) (.slice xb k2 yb) (.slice xc k3 yc) (.slice xd k4 yd)) 33)) (w.heap.size+1) fr nx (.slice xa k1 ya) (.slice xb k2 yb) (.slice xc k3 yc) (.slice xd k4 yd)):=hid w0
 clear A0 A1 w0
 obtain ⟨W0,eW0⟩:∃ X,((w.alloc (.cells #[.int .i64 p,.int .u64 q,.int .i64 C,.int .i64 R,.string s,.slice lo ln lc] 27)).alloc (.cells (wdcs fr nx (.slice xa k1 ya) (.slice xb k2 yb) (.slice xc k3 yc) (.slice xd k4 yd)) 33))=X:=⟨_,rfl⟩
 rw [eW0] at HS0 HP0 HW0
 go_enter Tryz.func3,Tryz.ntmps3
 go_wp2_with fail
 refine (awake13_any _ (HT.out.still HS0.out) (HDt.out.still HS0.out)).mono ?_
 rintro e w1 ⟨rfl,h1⟩
 have HS1:=hid (HS0.out.trans h1)
 have HP1:=hid (HP0.out.still h1)
 have HW1:=hid (HW0.out.still h1)
 clear h1 eW0 HS0 HP0 HW0
 obtain ⟨d0,d1,d2,d3,d4,d5,df⟩:=HW1.out.cells
 go_wp2_with fail
 refine (lent_any W fr nx xa xb xc xd k1 k2 k3 k4 ya yb yc yd w1 (HRa.out.still HS1.out) (HRb.out.still HS1.out) (HRc.out.still HS1.out) (HRd.out.still HS1.out) HBd.out).mono ?_
 rintro e w2 ⟨g0,n0,g1,n1,g2,n2,g3,n3,rfl,q0,q1,q2,q3,h2⟩
 have A2:=Still.alloc w2 (.cells (wdcs fr nx (.slice (some ⟨g0,0,none⟩) k1 n0) (.slice (some ⟨g1,0,none⟩) k2 n1) (.slice (some ⟨g2,0,none⟩) k3 n2) (.slice (some ⟨g3,0,none⟩) k4 n3)) 33)
 have h3:=h2.trans A2
 have HS3:=hid (HS1.out.trans h3)
 have HP3:=hid (HP1.out.still h3)
 have HW3:=hid (HW1.out.still h3)
 have HX3:Hid (Wdb (w2.alloc (.cells (wdcs fr nx (.slice (some ⟨g0,0,none⟩) k1 n0) (.slice (some ⟨g1,0,none⟩) k2 n1) (.slice (some ⟨g2,0,none⟩) k3 n2) (.slice (some ⟨g3,0,none⟩) k4 n3)) 33)) w2.heap.size fr nx (.slice (some ⟨g0,0,none⟩) k1 n0) (.slice (some ⟨g1,0,none⟩) k2 n1) (.slice (some ⟨g2,0,none⟩) k3 n2) (.slice (some ⟨g3,0,none⟩) k4 n3)):=hid (newWd_wb w2 fr nx (.slice (some ⟨g0,0,none⟩) k1 n0) (.slice (some ⟨g1,0,none⟩) k2 n1) (.slice (some ⟨g2,0,none⟩) k3 n2) (.slice (some ⟨g3,0,none⟩) k4 n3))
 have Q0:=hid (q0.still A2)
 have Q1:=hid (q1.still A2)
 have Q2:=hid (q2.still A2)
 have Q3:=hid (q3.still A2)
 obtain ⟨W3,eW3⟩:∃ X,(w2.alloc (.cells (wdcs fr nx (.slice (some ⟨g0,0,none⟩) k1 n0) (.slice (some ⟨g1,0,none⟩) k2 n1) (.slice (some ⟨g2,0,none⟩) k3 n2) (.slice (some ⟨g3,0,none⟩) k4 n3)) 33))=X:=⟨_,rfl⟩
 rw [eW3] at HS3 HP3 HW3 HX3 Q0 Q1 Q2 Q3
 have HL3:Hid (RdW W3 (.agg (wdcs fr nx (.slice (some ⟨g0,0,none⟩) k1 n0) (.slice (some ⟨g1,0,none⟩) k2 n1) (.slice (some ⟨g2,0,none⟩) k3 n2) (.slice (some ⟨g3,0,none⟩) k4 n3))) W):=hid (by
  have b:=HBd.out
  have e:=EL.out
  refine ⟨_,_,_,_, ?_,sl_init Q0.out e.1 (by omega),sl_init Q1.out e.2.1 (by omega),sl_init Q2.out e.2.2.1 (by omega),sl_init Q3.out e.2.2.2.1 (by omega)⟩
  rw [e.2.2.2.2.1,e.2.2.2.2.2])
 clear h2 A2 h3 q0 q1 q2 q3 d0 d1 d2 d3 d4 d5 df HS1 HP1 HW1
 obtain ⟨c0,c1,c2,c3,c4,c5,cf⟩:=HP3.out.cells
 dsimp only at c0 c1 c2 c3 c4 c5
 obtain ⟨f0,f1,f2,f3,f4,f5,ff⟩:=HX3.out.cells
 go_wp2_with fail
 refine (HCk.out W3 HS3.out _ HL3.out).mono ?_
 rintro e w4 ⟨rfl,h4⟩
 have HS4:=hid (HS3.out.trans h4)
 have HP4:=hid (HP3.out.still h4)
 have HW4:=hid (HW3.out.still h4)
 have HX4:=hid (HX3.out.still h4)
 have HL4:=hid (HL3.out.still h4)
 have R0:=hid (Q0.out.still h4)
 have R1:=hid (Q1.out.still h4)
 have R2:=hid (Q2.out.still h4)
 have R3:=hid (Q3.out.still h4)
 clear h4 eW3 c0 c1 c2 c3 c4 c5 cf f0 f1 f2 f3 f4 f5 ff HS3 HP3 HW3 HX3 HL3 Q0 Q1 Q2 Q3
 obtain ⟨d0,d1,d2,d3,d4,d5,df⟩:=HW4.out.cells
 obtain ⟨f0,f1,f2,f3,f4,f5,ff⟩:=HX4.out.cells
 go_wp2_with fail
 refine (lstill_any W fr nx g0 n0 g1 n1 g2 n2 g3 n3 xa xb xc xd k1 k2 k3 k4 ya yb yc yd w4 w1.heap.size R0.out R1.out R2.out R3.out HL4.out (HV.out.still HS4.out) ⟨EL.out.1,EL.out.2.1,EL.out.2.2.1,EL.out.2.2.2.1⟩ (by have:=HBd.out; omega)).mono ?_
 rintro e w5 ⟨rfl,h5⟩
 have HS5:=hid (HS4.out.trans h5)
 have HP5:=hid (HP4.out.still h5)
 have HW5:=hid (HW4.out.still h5)
 clear h5 d0 d1 d2 d3 d4 d5 df f0 f1 f2 f3 f4 f5 ff HS4 HP4 HW4 HX4 HL4 R0 R1 R2 R3
 obtain ⟨c0,c1,c2,c3,c4,c5,cf⟩:=HP5.out.cells
 dsimp only at c0 c1 c2 c3 c4 c5
 obtain ⟨d0,d1,d2,d3,d4,d5,df⟩:=HW5.out.cells
 have keq:(K == K)=true:=by simp
 go_wp2_with fail
 refine (HDk.out w5 HS5.out _ (HV.out.still HS5.out)).mono ?_
 rintro e w6 ⟨rfl,h6⟩
 have HS6:=hid (HS5.out.trans h6)
 clear h6 c0 c1 c2 c3 c4 c5 cf d0 d1 d2 d3 d4 d5 df
 go_wp2_with fail
 go_ret
 exact ⟨rfl,HS6.out⟩
theorem checks13_law (p q C R:Int) (s:ByteArray) (lo:Option Addr) (ln lc:Nat) (l:List Int) (hz:s.size<=281474976710656) (W:Wd) (v:Value) (hb:(W.ms.length+1)*104<=140737488355328/\(W.cs.length+1)*32<=140737488355328/\(W.hs.length+1)*64<=140737488355328/\(W.ks.length+1)*24<=140737488355328) (w:World) (ht:Tab w) (hd:DTab w) (hr:RdI w lo ln lc l) (hv:RdW w v W) :
  Calls Tryz.prog 3 #[.agg #[.int .i64 p,.int .u64 q,.int .i64 C,.int .i64 R,.string s,.slice lo ln lc],v] w fun e w'=>e=.returned (.bool true)/\Still w w':=by
 obtain ⟨v0,hv0⟩:=chkV_ex C R s w
 by_cases hc:CfgP p v0 (stV C s v0).length l
 ·obtain ⟨N,rfl,_⟩:=cfg_nat hc
  exact checks_any (N:Int) q C R s lo ln lc (chkW (N:Int) (envM q C R s v0) W) W v w ht hd hv hb
   (fun u hu v hv=>wchk_yes N q C R s lo ln lc (envM q C R s v0) l u v0 (q13_of ⟨(N:Int),q,C,R,s,.slice lo ln lc⟩ v0 hv0 u) (hr.still hu) hc W v hv)
   (fun u hu v hv=>rchk13_yes N q C R s lo ln lc (envM q C R s v0) l u v0 (a13_of ⟨(N:Int),q,C,R,s,.slice lo ln lc⟩ hz v0 hv0 u) (fun z=>spots_of C R s hz v0 hv0 z) (hr.still hu) hc W v hv)
 ·exact checks_any p q C R s lo ln lc 130 W v w ht hd hv hb
   (fun u hu v hv=>wchk_no p q C R s lo ln lc (envM q C R s v0) l u v0 (q13_of ⟨p,q,C,R,s,.slice lo ln lc⟩ v0 hv0 u) (hr.still hu) hc W v hv)
   (fun u hu v hv=>rchk13_no p q C R s lo ln lc (stV C s v0) l u v0 (a13_of ⟨p,q,C,R,s,.slice lo ln lc⟩ hz v0 hv0 u) (hr.still hu) hc W v hv)
end Go.Proofs.YtonchpgmdnekpaaGreatDoor
