/- Parts of the proof, laid end to end. -/
import Derived.Test.YtonchpgmdnekpaaGreatDoorZK31
import Derived.Test.YtonchpgmdnekpaaGreatDoorZK18
import Derived.Test.YtonchpgmdnekpaaGreatDoorZK10
import Derived.Test.YtonchpgmdnekpaaGreatDoorZK15
namespace Go.Proofs.YtonchpgmdnekpaaGreatDoor
open Go.RowKit
open Pu Gp Ap Vp Np Za Ka Ja Ea Ha
set_option maxRecDepth 100000
def m7:Mv:=⟨0,0,0,0,0,0,0,0,0,false,0,-7,0⟩
def c7:Scr:=⟨0,-7,0,0⟩
def s7:Sh:=⟨-7,0,0,0,0,0,0,0⟩
def p7:Pk:=⟨-7,0,0⟩
theorem owG_cap {α:Type} {K:Kd α} {e:TypeId} {w:World} {B n cap g:Nat} {L:List α} (h:OwG K e w B (.slice (some ⟨g,0,none⟩) (n+1) cap) L):n<=cap:=by
 rcases h.2 with ⟨hv,_⟩ | ⟨g',cap',cur,hv,hb,hg,hn,hm,hs,ht⟩
 ·cases hv
 ·injection hv with _ h1 h2
  omega
set_option maxHeartbeats 16000000 in
theorem lent_any (W : Wd) (fr nx : Int) (xa xb xc xd : Option Addr) (k1 k2 k3 k4 ya yb yc yd : Nat) (w : World) (h1 : RdG KM w xa k1 W.ms) (h2 : RdG KC w xb k2 W.cs) (h3 : RdG KS w xc k3 W.hs) (h4 : RdG KQ w xd k4 W.ks) (hb : (k1 + 1) * 104 <= 140737488355328 /\ (k2 + 1) * 32 <= 140737488355328 /\ (k3 + 1) * 64 <= 140737488355328 /\ (k4 + 1) * 24 <= 140737488355328) :
    Calls Tryz.prog 6 #[.agg (wdcs fr nx (.slice xa k1 ya) (.slice xb k2 yb) (.slice xc k3 yc) (.slice xd k4 yd))] w fun e w'=>∃ g0 c0 g1 c1 g2 c2 g3 c3,e=.returned (.agg (wdcs fr nx (.slice (some ⟨g0,0,none⟩) k1 c0) (.slice (some ⟨g1,0,none⟩) k2 c1) (.slice (some ⟨g2,0,none⟩) k3 c2) (.slice (some ⟨g3,0,none⟩) k4 c3)))/\OwG KM 52 w' w.heap.size (.slice (some ⟨g0,0,none⟩) (k1+1) c0) (W.ms ++ [m7])/\OwG KC 54 w' w.heap.size (.slice (some ⟨g1,0,none⟩) (k2+1) c1) (W.cs ++ [c7])/\OwG KS 56 w' w.heap.size (.slice (some ⟨g2,0,none⟩) (k3+1) c2) (W.hs ++ [s7])/\OwG KQ 58 w' w.heap.size (.slice (some ⟨g3,0,none⟩) (k4+1) c3) (W.ks ++ [p7])/\Still w w':=by
  have EL:=hid (And.intro h1.1 (And.intro h2.1 (And.intro h3.1 h4.1)))
  have HR0:=hid h1
  have HR1:=hid h2
  have HR2:=hid h3
  have HR3:=hid h4
  have HBd:=hid hb
  have A0:=Still.alloc w (.cells (wdcs fr nx (.slice xa k1 ya) (.slice xb k2 yb) (.slice xc k3 yc) (.slice xd k4 yd)) 33)
  have A1:=Still.alloc (w.alloc (.cells (wdcs fr nx (.slice xa k1 ya) (.slice xb k2 yb) (.slice xc k3 yc) (.slice xd k4 yd)) 33)) (.cells (wdcs 0 0 (.slice none 0 0) (.slice none 0 0) (.slice none 0 0) (.slice none 0 0)) 33)
  have z0:=newWd_wb (w.alloc (.cells (wdcs fr nx (.slice xa k1 ya) (.slice xb k2 yb) (.slice xc k3 yc) (.slice xd k4 yd)) 33)) 0 0 (.slice none 0 0) (.slice none 0 0) (.slice none 0 0) (.slice none 0 0)
  rw [size_alloc] at z0
  have HS0:Hid (Still w ((w.alloc (.cells (wdcs fr nx (.slice xa k1 ya) (.slice xb k2 yb) (.slice xc k3 yc) (.slice xd k4 yd)) 33)).alloc (.cells (wdcs 0 0 (.slice none 0 0) (.slice none 0 0) (.slice none 0 0) (.slice none 0 0)) 33))):=hid (A0.trans A1)
  have HW0:Hid (Wdb ((w.alloc (.cells (wdcs fr nx (.slice xa k1 ya) (.slice xb k2 yb) (.slice xc k3 yc) (.slice xd k4 yd)) 33)).alloc (.cells (wdcs 0 0 (.slice none 0 0) (.slice none 0 0) (.slice none 0 0) (.slice none 0 0)) 33)) w.heap.size fr nx (.slice xa k1 ya) (.slice xb k2 yb) (.slice xc k3 yc) (.slice xd k4 yd)):=hid ((newWd_wb w fr nx (.slice xa k1 ya) (.slice xb k2 yb) (.slice xc k3 yc) (.slice xd k4 yd)).still A1)
  have HZ0:Hid (Wdb ((w.alloc (.cells (wdcs fr nx (.slice xa k1 ya) (.slice xb k2 yb) (.slice xc k3 yc) (.slice xd k4 yd)) 33)).alloc (.cells (wdcs 0 0 (.slice none 0 0) (.slice none 0 0) (.slice none 0 0) (.slice none 0 0)) 33)) (w.heap.size+1) 0 0 (.slice none 0 0) (.slice none 0 0) (.slice none 0 0) (.slice none 0 0)):=hid z0
  clear h1 h2 h3 h4 hb A0 A1 z0
  obtain ⟨W0,eW0⟩:∃ X,((w.alloc (.cells (wdcs fr nx (.slice xa k1 ya) (.slice xb k2 yb) (.slice xc k3 yc) (.slice xd k4 yd)) 33)).alloc (.cells (wdcs 0 0 (.slice none 0 0) (.slice none 0 0) (.slice none 0 0) (.slice none 0 0)) 33))=X:=⟨_,rfl⟩
  rw [eW0] at HS0 HW0 HZ0
  obtain ⟨d0,d1,d2,d3,d4,d5,df⟩:=HW0.out.cells
  go_enter Tryz.func6,Tryz.ntmps6
  go_upto_region 1 with fail
  clear eW0
  go_wp2_with (first
        | (at_builtin
           refine wpList_appN KM _ rfl _ _ 28 rfl Tryz.underlying28 104 infoM _ _ _ W.ms rfl rfl (HR0.out.still HS0.out) (by have:=HBd.out; omega) ?_
           intro v' u0 ho h1
           have HA0:=hid (ho.less HS0.out.size)
           have HS1:=hid (HS0.out.trans h1)
           have HW1:=hid (HW0.out.still h1)
           have HZ1:=hid (HZ0.out.still h1)
           obtain ⟨f0,f1,f2,f3,f4,f5,ff⟩:=HW1.out.cells
           obtain ⟨ao0,cp0,rfl,_⟩:=ho.slice
           have HY0:Hid ((u0.alloc (.cells (mcs m7) 52)).heap[u0.heap.size]?=some (.cells (mcs m7) 52 (0,0))):=hid (heap_alloc_new u0 _)
           clear ho h1 d0 d1 d2 d3 d4 d5 df)
        | (at_builtin
           refine wpList_appH KM _ rfl _ _ 28 rfl Tryz.underlying28 104 infoM w.heap.size u0.heap.size _ W.ms m7 rfl rfl (HA0.out.still (Still.alloc u0 _)) HY0.out (by have:=HBd.out; have:=EL.out; omega) (by have:=HBd.out; have:=EL.out; omega) (by have:=HS1.out.size; simp; omega) ?_
           intro v' v0 ho hf
           have hT:=(HA0.out.still (Still.alloc u0 _)).frT (ts:=[52]) hf (Nat.le_refl _) (by simp)
           obtain ⟨g0,c0,rfl,_,_⟩:=ho.head (by simp)
           rw [show (W.ms ++ [m7]).length=k1+1 by have:=EL.out; simp; omega] at ho ⊢
           have HO0_2:=hid ho
           have HC0:Hid (k1<=c0):=hid (owG_cap ho)
           have HS2:=hid (hT.old (HS1.out.trans (Still.alloc u0 _)) (Nat.le_refl _))
           have HW2:Hid (Wdb v0 w.heap.size fr nx (.slice xa k1 ya) (.slice xb k2 yb) (.slice xc k3 yc) (.slice xd k4 yd)):=hid (hT.kept (HW1.out.still (Still.alloc u0 _)) (by decide))
           have HZ2:Hid (Wdb v0 (w.heap.size+1) 0 0 (.slice none 0 0) (.slice none 0 0) (.slice none 0 0) (.slice none 0 0)):=hid (hT.kept (HZ1.out.still (Still.alloc u0 _)) (by decide))
           obtain ⟨d0,d1,d2,d3,d4,d5,df⟩:=HW2.out.cells
           clear ho hf hT f0 f1 f2 f3 f4 f5 ff)
        | (at_builtin
           refine wpList_appN KC _ rfl _ _ 29 rfl Tryz.underlying29 32 infoC _ _ _ W.cs rfl rfl (HR1.out.still HS2.out) (by have:=HBd.out; omega) ?_
           intro v' u1 ho h1
           have HA1:=hid (ho.less HS2.out.size)
           have HS3:=hid (HS2.out.trans h1)
           have HW3:=hid (HW2.out.still h1)
           have HZ3:=hid (HZ2.out.still h1)
           have HO0_3:=hid (HO0_2.out.still h1)
           obtain ⟨f0,f1,f2,f3,f4,f5,ff⟩:=HW3.out.cells
           obtain ⟨ao1,cp1,rfl,_⟩:=ho.slice
           have HY1:Hid ((u1.alloc (.cells (ccs c7) 54)).heap[u1.heap.size]?=some (.cells (ccs c7) 54 (0,0))):=hid (heap_alloc_new u1 _)
           clear ho h1 d0 d1 d2 d3 d4 d5 df)
        | (at_builtin
           refine wpList_appH KC _ rfl _ _ 29 rfl Tryz.underlying29 32 infoC w.heap.size u1.heap.size _ W.cs c7 rfl rfl (HA1.out.still (Still.alloc u1 _)) HY1.out (by have:=HBd.out; have:=EL.out; omega) (by have:=HBd.out; have:=EL.out; omega) (by have:=HS3.out.size; simp; omega) ?_
           intro v' v1 ho hf
           have hT:=(HA1.out.still (Still.alloc u1 _)).frT (ts:=[54]) hf (Nat.le_refl _) (by simp)
           obtain ⟨g1,c1,rfl,_,_⟩:=ho.head (by simp)
           rw [show (W.cs ++ [c7]).length=k2+1 by have:=EL.out; simp; omega] at ho ⊢
           have HO1_4:=hid ho
           have HC1:Hid (k2<=c1):=hid (owG_cap ho)
           have HO0_4:=hid ((HO0_3.out.still (Still.alloc u1 _)).keepT hT (by decide))
           have HS4:=hid (hT.old (HS3.out.trans (Still.alloc u1 _)) (Nat.le_refl _))
           have HW4:Hid (Wdb v1 w.heap.size fr nx (.slice xa k1 ya) (.slice xb k2 yb) (.slice xc k3 yc) (.slice xd k4 yd)):=hid (hT.kept (HW3.out.still (Still.alloc u1 _)) (by decide))
           have HZ4:Hid (Wdb v1 (w.heap.size+1) 0 0 (.slice none 0 0) (.slice none 0 0) (.slice none 0 0) (.slice none 0 0)):=hid (hT.kept (HZ3.out.still (Still.alloc u1 _)) (by decide))
           obtain ⟨d0,d1,d2,d3,d4,d5,df⟩:=HW4.out.cells
           clear ho hf hT f0 f1 f2 f3 f4 f5 ff)
        | (at_builtin
           refine wpList_appN KS _ rfl _ _ 30 rfl Tryz.underlying30 64 infoS _ _ _ W.hs rfl rfl (HR2.out.still HS4.out) (by have:=HBd.out; omega) ?_
           intro v' u2 ho h1
           have HA2:=hid (ho.less HS4.out.size)
           have HS5:=hid (HS4.out.trans h1)
           have HW5:=hid (HW4.out.still h1)
           have HZ5:=hid (HZ4.out.still h1)
           have HO0_5:=hid (HO0_4.out.still h1)
           have HO1_5:=hid (HO1_4.out.still h1)
           obtain ⟨f0,f1,f2,f3,f4,f5,ff⟩:=HW5.out.cells
           obtain ⟨ao2,cp2,rfl,_⟩:=ho.slice
           have HY2:Hid ((u2.alloc (.cells (scs s7) 56)).heap[u2.heap.size]?=some (.cells (scs s7) 56 (0,0))):=hid (heap_alloc_new u2 _)
           clear ho h1 d0 d1 d2 d3 d4 d5 df)
        | (at_builtin
           refine wpList_appH KS _ rfl _ _ 30 rfl Tryz.underlying30 64 infoS w.heap.size u2.heap.size _ W.hs s7 rfl rfl (HA2.out.still (Still.alloc u2 _)) HY2.out (by have:=HBd.out; have:=EL.out; omega) (by have:=HBd.out; have:=EL.out; omega) (by have:=HS5.out.size; simp; omega) ?_
           intro v' v2 ho hf
           have hT:=(HA2.out.still (Still.alloc u2 _)).frT (ts:=[56]) hf (Nat.le_refl _) (by simp)
           obtain ⟨g2,c2,rfl,_,_⟩:=ho.head (by simp)
           rw [show (W.hs ++ [s7]).length=k3+1 by have:=EL.out; simp; omega] at ho ⊢
           have HO2_6:=hid ho
           have HC2:Hid (k3<=c2):=hid (owG_cap ho)
           have HO0_6:=hid ((HO0_5.out.still (Still.alloc u2 _)).keepT hT (by decide))
           have HO1_6:=hid ((HO1_5.out.still (Still.alloc u2 _)).keepT hT (by decide))
           have HS6:=hid (hT.old (HS5.out.trans (Still.alloc u2 _)) (Nat.le_refl _))
           have HW6:Hid (Wdb v2 w.heap.size fr nx (.slice xa k1 ya) (.slice xb k2 yb) (.slice xc k3 yc) (.slice xd k4 yd)):=hid (hT.kept (HW5.out.still (Still.alloc u2 _)) (by decide))
           have HZ6:Hid (Wdb v2 (w.heap.size+1) 0 0 (.slice none 0 0) (.slice none 0 0) (.slice none 0 0) (.slice none 0 0)):=hid (hT.kept (HZ5.out.still (Still.alloc u2 _)) (by decide))
           obtain ⟨d0,d1,d2,d3,d4,d5,df⟩:=HW6.out.cells
           clear ho hf hT f0 f1 f2 f3 f4 f5 ff)
        | (at_builtin
           refine wpList_appN KQ _ rfl _ _ 31 rfl Tryz.underlying31 24 infoQ _ _ _ W.ks rfl rfl (HR3.out.still HS6.out) (by have:=HBd.out; omega) ?_
           intro v' u3 ho h1
           have HA3:=hid (ho.less HS6.out.size)
           have HS7:=hid (HS6.out.trans h1)
           have HW7:=hid (HW6.out.still h1)
           have HZ7:=hid (HZ6.out.still h1)
           have HO0_7:=hid (HO0_6.out.still h1)
           have HO1_7:=hid (HO1_6.out.still h1)
           have HO2_7:=hid (HO2_6.out.still h1)
           obtain ⟨f0,f1,f2,f3,f4,f5,ff⟩:=HW7.out.cells
           obtain ⟨ao3,cp3,rfl,_⟩:=ho.slice
           have HY3:Hid ((u3.alloc (.cells (kcs p7) 58)).heap[u3.heap.size]?=some (.cells (kcs p7) 58 (0,0))):=hid (heap_alloc_new u3 _)
           clear ho h1 d0 d1 d2 d3 d4 d5 df)
        | (at_builtin
           refine wpList_appH KQ _ rfl _ _ 31 rfl Tryz.underlying31 24 infoQ w.heap.size u3.heap.size _ W.ks p7 rfl rfl (HA3.out.still (Still.alloc u3 _)) HY3.out (by have:=HBd.out; have:=EL.out; omega) (by have:=HBd.out; have:=EL.out; omega) (by have:=HS7.out.size; simp; omega) ?_
           intro v' v3 ho hf
           have hT:=(HA3.out.still (Still.alloc u3 _)).frT (ts:=[58]) hf (Nat.le_refl _) (by simp)
           obtain ⟨g3,c3,rfl,_,_⟩:=ho.head (by simp)
           rw [show (W.ks ++ [p7]).length=k4+1 by have:=EL.out; simp; omega] at ho ⊢
           have HO3_8:=hid ho
           have HC3:Hid (k4<=c3):=hid (owG_cap ho)
           have HO0_8:=hid ((HO0_7.out.still (Still.alloc u3 _)).keepT hT (by decide))
           have HO1_8:=hid ((HO1_7.out.still (Still.alloc u3 _)).keepT hT (by decide))
           have HO2_8:=hid ((HO2_7.out.still (Still.alloc u3 _)).keepT hT (by decide))
           have HS8:=hid (hT.old (HS7.out.trans (Still.alloc u3 _)) (Nat.le_refl _))
           have HW8:Hid (Wdb v3 w.heap.size fr nx (.slice xa k1 ya) (.slice xb k2 yb) (.slice xc k3 yc) (.slice xd k4 yd)):=hid (hT.kept (HW7.out.still (Still.alloc u3 _)) (by decide))
           have HZ8:Hid (Wdb v3 (w.heap.size+1) 0 0 (.slice none 0 0) (.slice none 0 0) (.slice none 0 0) (.slice none 0 0)):=hid (hT.kept (HZ7.out.still (Still.alloc u3 _)) (by decide))
           obtain ⟨d0,d1,d2,d3,d4,d5,df⟩:=HW8.out.cells
           have t0:∀ W':World,(Instr.slice 28 (.slice (some ⟨g0,0,none⟩) (k1+1) c0) none (some (.int .i64 (k1:Int))) none).run Tryz.prog W'=.ok (.slice (some ⟨g0,0,none⟩) k1 c0) W':=fun W'=>by have h:=run_uptoG (P:=Tryz.prog) Tryz.underlying28 (e:=52) ⟨_,rfl⟩ W' (some ⟨g0,0,none⟩) (k1+1) c0 (k1:Int) (by omega) (by have:=HC0.out; omega); rw [Int.toNat_natCast] at h; exact h
           have t1:∀ W':World,(Instr.slice 29 (.slice (some ⟨g1,0,none⟩) (k2+1) c1) none (some (.int .i64 (k2:Int))) none).run Tryz.prog W'=.ok (.slice (some ⟨g1,0,none⟩) k2 c1) W':=fun W'=>by have h:=run_uptoG (P:=Tryz.prog) Tryz.underlying29 (e:=54) ⟨_,rfl⟩ W' (some ⟨g1,0,none⟩) (k2+1) c1 (k2:Int) (by omega) (by have:=HC1.out; omega); rw [Int.toNat_natCast] at h; exact h
           have t2:∀ W':World,(Instr.slice 30 (.slice (some ⟨g2,0,none⟩) (k3+1) c2) none (some (.int .i64 (k3:Int))) none).run Tryz.prog W'=.ok (.slice (some ⟨g2,0,none⟩) k3 c2) W':=fun W'=>by have h:=run_uptoG (P:=Tryz.prog) Tryz.underlying30 (e:=56) ⟨_,rfl⟩ W' (some ⟨g2,0,none⟩) (k3+1) c2 (k3:Int) (by omega) (by have:=HC2.out; omega); rw [Int.toNat_natCast] at h; exact h
           have t3:∀ W':World,(Instr.slice 31 (.slice (some ⟨g3,0,none⟩) (k4+1) c3) none (some (.int .i64 (k4:Int))) none).run Tryz.prog W'=.ok (.slice (some ⟨g3,0,none⟩) k4 c3) W':=fun W'=>by have h:=run_uptoG (P:=Tryz.prog) Tryz.underlying31 (e:=58) ⟨_,rfl⟩ W' (some ⟨g3,0,none⟩) (k4+1) c3 (k4:Int) (by omega) (by have:=HC3.out; omega); rw [Int.toNat_natCast] at h; exact h
           have ty:=HW8.out.ty
           have K1:=HW8.out.s1 (.slice (some ⟨g0,0,none⟩) k1 c0)
           have K2:=K1.s2 (.slice (some ⟨g1,0,none⟩) k2 c1)
           have K3:=K2.s3 (.slice (some ⟨g2,0,none⟩) k3 c2)
           have K4:=hid (K3.s4 (.slice (some ⟨g3,0,none⟩) k4 c3))
           have ty1:=K1.ty
           have ty2:=K2.ty
           have ty3:=K3.ty
           have Q0:=hid ((((HO0_8.out.setO (o:=1) ty (by decide) (.slice (some ⟨g0,0,none⟩) k1 c0)).setO (o:=2) ty1 (by decide) (.slice (some ⟨g1,0,none⟩) k2 c1)).setO (o:=3) ty2 (by decide) (.slice (some ⟨g2,0,none⟩) k3 c2)).setO (o:=4) ty3 (by decide) (.slice (some ⟨g3,0,none⟩) k4 c3))
           have Q1:=hid ((((HO1_8.out.setO (o:=1) ty (by decide) (.slice (some ⟨g0,0,none⟩) k1 c0)).setO (o:=2) ty1 (by decide) (.slice (some ⟨g1,0,none⟩) k2 c1)).setO (o:=3) ty2 (by decide) (.slice (some ⟨g2,0,none⟩) k3 c2)).setO (o:=4) ty3 (by decide) (.slice (some ⟨g3,0,none⟩) k4 c3))
           have Q2:=hid ((((HO2_8.out.setO (o:=1) ty (by decide) (.slice (some ⟨g0,0,none⟩) k1 c0)).setO (o:=2) ty1 (by decide) (.slice (some ⟨g1,0,none⟩) k2 c1)).setO (o:=3) ty2 (by decide) (.slice (some ⟨g2,0,none⟩) k3 c2)).setO (o:=4) ty3 (by decide) (.slice (some ⟨g3,0,none⟩) k4 c3))
           have Q3:=hid ((((HO3_8.out.setO (o:=1) ty (by decide) (.slice (some ⟨g0,0,none⟩) k1 c0)).setO (o:=2) ty1 (by decide) (.slice (some ⟨g1,0,none⟩) k2 c1)).setO (o:=3) ty2 (by decide) (.slice (some ⟨g2,0,none⟩) k3 c2)).setO (o:=4) ty3 (by decide) (.slice (some ⟨g3,0,none⟩) k4 c3))
           have hnz:w.heap.size+1≠w.heap.size:=by omega
           have HZ9:=hid ((((HZ8.out.other (k:=w.heap.size) (o:=1) (v:=(.slice (some ⟨g0,0,none⟩) k1 c0)) hnz).other (k:=w.heap.size) (o:=2) (v:=(.slice (some ⟨g1,0,none⟩) k2 c1)) hnz).other (k:=w.heap.size) (o:=3) (v:=(.slice (some ⟨g2,0,none⟩) k3 c2)) hnz).other (k:=w.heap.size) (o:=4) (v:=(.slice (some ⟨g3,0,none⟩) k4 c3)) hnz)
           have HS9:=hid ((((HS8.out.setCell ⟨w.heap.size,1,none⟩ (.slice (some ⟨g0,0,none⟩) k1 c0) (.inr (Nat.le_refl _))).setCell ⟨w.heap.size,2,none⟩ (.slice (some ⟨g1,0,none⟩) k2 c1) (.inr (Nat.le_refl _))).setCell ⟨w.heap.size,3,none⟩ (.slice (some ⟨g2,0,none⟩) k3 c2) (.inr (Nat.le_refl _))).setCell ⟨w.heap.size,4,none⟩ (.slice (some ⟨g3,0,none⟩) k4 c3) (.inr (Nat.le_refl _)))
           obtain ⟨W8,eW8⟩:∃ X,((((v3.setCell ⟨w.heap.size,1,none⟩ (.slice (some ⟨g0,0,none⟩) k1 c0)).setCell ⟨w.heap.size,2,none⟩ (.slice (some ⟨g1,0,none⟩) k2 c1)).setCell ⟨w.heap.size,3,none⟩ (.slice (some ⟨g2,0,none⟩) k3 c2)).setCell ⟨w.heap.size,4,none⟩ (.slice (some ⟨g3,0,none⟩) k4 c3))=X:=⟨_,rfl⟩
           rw [eW8] at K4 Q0 Q1 Q2 Q3 HZ9 HS9
           obtain ⟨z0,z1,z2,z3,z4,z5,zf⟩:=HZ9.out.cells
           obtain ⟨y0,y1,y2,y3,y4,y5,yf⟩:=K4.out.cells
           clear K1 K2 K3 ty ty1 ty2 ty3 hnz
           clear ho hf hT f0 f1 f2 f3 f4 f5 ff))
  have ty:=HZ9.out.ty
  refine bodyPost_ret (Wdb.res1 (HZ9.out.put fr nx _ _ _ _) rfl _ rfl) rfl ⟨_,_,_,_,_,_,_,_,rfl,Q0.out.set6 ty (by decide) _ _ _ _ _ _,Q1.out.set6 ty (by decide) _ _ _ _ _ _,Q2.out.set6 ty (by decide) _ _ _ _ _ _,Q3.out.set6 ty (by decide) _ _ _ _ _ _,still_set6 HS9.out (by omega) _ _ _ _ _ _⟩
set_option maxHeartbeats 8000000 in
theorem lstill_any (W:Wd) (fr nx:Int) (g0 c0 g1 c1 g2 c2 g3 c3:Nat) (xa xb xc xd:Option Addr) (k1 k2 k3 k4 ya yb yc yd:Nat) (w:World) (B:Nat) (o0:OwG KM 52 w B (.slice (some ⟨g0,0,none⟩) (k1+1) c0) (W.ms ++ [m7])) (o1:OwG KC 54 w B (.slice (some ⟨g1,0,none⟩) (k2+1) c1) (W.cs ++ [c7])) (o2:OwG KS 56 w B (.slice (some ⟨g2,0,none⟩) (k3+1) c2) (W.hs ++ [s7])) (o3:OwG KQ 58 w B (.slice (some ⟨g3,0,none⟩) (k4+1) c3) (W.ks ++ [p7])) (hl:RdW w (.agg (wdcs fr nx (.slice (some ⟨g0,0,none⟩) k1 c0) (.slice (some ⟨g1,0,none⟩) k2 c1) (.slice (some ⟨g2,0,none⟩) k3 c2) (.slice (some ⟨g3,0,none⟩) k4 c3))) W) (hv:RdW w (.agg (wdcs fr nx (.slice xa k1 ya) (.slice xb k2 yb) (.slice xc k3 yc) (.slice xd k4 yd))) W) (he:W.ms.length=k1/\W.cs.length=k2/\W.hs.length=k3/\W.ks.length=k4) (hb:k1<=281474976710656/\k2<=281474976710656/\k3<=281474976710656/\k4<=281474976710656) :
  Calls Tryz.prog 8 #[.agg (wdcs fr nx (.slice (some ⟨g0,0,none⟩) k1 c0) (.slice (some ⟨g1,0,none⟩) k2 c1) (.slice (some ⟨g2,0,none⟩) k3 c2) (.slice (some ⟨g3,0,none⟩) k4 c3)),.agg (wdcs fr nx (.slice xa k1 ya) (.slice xb k2 yb) (.slice xc k3 yc) (.slice xd k4 yd))] w fun e w'=>e=.returned (.bool true)/\Still w w':=by
 have EL:=hid he
 have t0:∀ W':World,(Instr.slice 28 (.slice (some ⟨g0,0,none⟩) k1 c0) none (some (.int .i64 ((k1:Int)+1))) none).run Tryz.prog W'=.ok (.slice (some ⟨g0,0,none⟩) (k1+1) c0) W':=fun W'=>by have h:=run_uptoG (P:=Tryz.prog) Tryz.underlying28 (e:=52) ⟨_,rfl⟩ W' (some ⟨g0,0,none⟩) k1 c0 ((k1:Int)+1) (by omega) (by have hq:=(owG_len o0).2; have:=EL.out; simp only [List.length_append,List.length_cons,List.length_nil] at hq; omega); rw [show ((k1:Int)+1).toNat=k1+1 by omega] at h; exact h
 have t1:∀ W':World,(Instr.slice 29 (.slice (some ⟨g1,0,none⟩) k2 c1) none (some (.int .i64 ((k2:Int)+1))) none).run Tryz.prog W'=.ok (.slice (some ⟨g1,0,none⟩) (k2+1) c1) W':=fun W'=>by have h:=run_uptoG (P:=Tryz.prog) Tryz.underlying29 (e:=54) ⟨_,rfl⟩ W' (some ⟨g1,0,none⟩) k2 c1 ((k2:Int)+1) (by omega) (by have hq:=(owG_len o1).2; have:=EL.out; simp only [List.length_append,List.length_cons,List.length_nil] at hq; omega); rw [show ((k2:Int)+1).toNat=k2+1 by omega] at h; exact h
 have t2:∀ W':World,(Instr.slice 30 (.slice (some ⟨g2,0,none⟩) k3 c2) none (some (.int .i64 ((k3:Int)+1))) none).run Tryz.prog W'=.ok (.slice (some ⟨g2,0,none⟩) (k3+1) c2) W':=fun W'=>by have h:=run_uptoG (P:=Tryz.prog) Tryz.underlying30 (e:=56) ⟨_,rfl⟩ W' (some ⟨g2,0,none⟩) k3 c2 ((k3:Int)+1) (by omega) (by have hq:=(owG_len o2).2; have:=EL.out; simp only [List.length_append,List.length_cons,List.length_nil] at hq; omega); rw [show ((k3:Int)+1).toNat=k3+1 by omega] at h; exact h
 have t3:∀ W':World,(Instr.slice 31 (.slice (some ⟨g3,0,none⟩) k4 c3) none (some (.int .i64 ((k4:Int)+1))) none).run Tryz.prog W'=.ok (.slice (some ⟨g3,0,none⟩) (k4+1) c3) W':=fun W'=>by have h:=run_uptoG (P:=Tryz.prog) Tryz.underlying31 (e:=58) ⟨_,rfl⟩ W' (some ⟨g3,0,none⟩) k4 c3 ((k4:Int)+1) (by omega) (by have hq:=(owG_len o3).2; have:=EL.out; simp only [List.length_append,List.length_cons,List.length_nil] at hq; omega); rw [show ((k4:Int)+1).toNat=k4+1 by omega] at h; exact h
 have y0:w.cell? ⟨g0,k1*13+11,none⟩=some (.int .i64 (-7)):=by have h:=o0.get (i:=k1) (by have:=EL.out; simp; omega) 11 (.int .i64 (-7)) (by rw [show (W.ms ++ [m7]).getD k1 KM.d=m7 by rw [show k1=W.ms.length by have:=EL.out; omega]; simp [List.getD_eq_getElem?_getD]]; rfl); exact h
 have y1:w.cell? ⟨g1,k2*4+1,none⟩=some (.int .i64 (-7)):=by have h:=o1.get (i:=k2) (by have:=EL.out; simp; omega) 1 (.int .i64 (-7)) (by rw [show (W.cs ++ [c7]).getD k2 KC.d=c7 by rw [show k2=W.cs.length by have:=EL.out; omega]; simp [List.getD_eq_getElem?_getD]]; rfl); exact h
 have y2:w.cell? ⟨g2,k3*8,none⟩=some (.int .i64 (-7)):=by have h:=o2.get (i:=k3) (by have:=EL.out; simp; omega) 0 (.int .i64 (-7)) (by rw [show (W.hs ++ [s7]).getD k3 KS.d=s7 by rw [show k3=W.hs.length by have:=EL.out; omega]; simp [List.getD_eq_getElem?_getD]]; rfl); exact h
 have y3:w.cell? ⟨g3,k4*3,none⟩=some (.int .i64 (-7)):=by have h:=o3.get (i:=k4) (by have:=EL.out; simp; omega) 0 (.int .i64 (-7)) (by rw [show (W.ks ++ [p7]).getD k4 KQ.d=p7 by rw [show k4=W.ks.length by have:=EL.out; omega]; simp [List.getD_eq_getElem?_getD]]; rfl); exact h
 have HYc:=hid (And.intro y0 (And.intro y1 (And.intro y2 y3)))
 have A0:=Still.alloc w (.cells (wdcs fr nx (.slice (some ⟨g0,0,none⟩) k1 c0) (.slice (some ⟨g1,0,none⟩) k2 c1) (.slice (some ⟨g2,0,none⟩) k3 c2) (.slice (some ⟨g3,0,none⟩) k4 c3)) 33)
 have A1:=Still.alloc (w.alloc (.cells (wdcs fr nx (.slice (some ⟨g0,0,none⟩) k1 c0) (.slice (some ⟨g1,0,none⟩) k2 c1) (.slice (some ⟨g2,0,none⟩) k3 c2) (.slice (some ⟨g3,0,none⟩) k4 c3)) 33)) (.cells (wdcs fr nx (.slice xa k1 ya) (.slice xb k2 yb) (.slice xc k3 yc) (.slice xd k4 yd)) 33)
 have z0:=newWd_wb (w.alloc (.cells (wdcs fr nx (.slice (some ⟨g0,0,none⟩) k1 c0) (.slice (some ⟨g1,0,none⟩) k2 c1) (.slice (some ⟨g2,0,none⟩) k3 c2) (.slice (some ⟨g3,0,none⟩) k4 c3)) 33)) fr nx (.slice xa k1 ya) (.slice xb k2 yb) (.slice xc k3 yc) (.slice xd k4 yd)
 rw [size_alloc] at z0
 have HS0:Hid (Still w ((w.alloc (.cells (wdcs fr nx (.slice (some ⟨g0,0,none⟩) k1 c0) (.slice (some ⟨g1,0,none⟩) k2 c1) (.slice (some ⟨g2,0,none⟩) k3 c2) (.slice (some ⟨g3,0,none⟩) k4 c3)) 33)).alloc (.cells (wdcs fr nx (.slice xa k1 ya) (.slice xb k2 yb) (.slice xc k3 yc) (.slice xd k4 yd)) 33))):=hid (A0.trans A1)
 have HW0:Hid (Wdb ((w.alloc (.cells (wdcs fr nx (.slice (some ⟨g0,0,none⟩) k1 c0) (.slice (some ⟨g1,0,none⟩) k2 c1) (.slice (some ⟨g2,0,none⟩) k3 c2) (.slice (some ⟨g3,0,none⟩) k4 c3)) 33)).alloc (.cells (wdcs fr nx (.slice xa k1 ya) (.slice xb k2 yb) (.slice xc k3 yc) (.slice xd k4 yd)) 33)) w.heap.size fr nx (.slice (some ⟨g0,0,none⟩) k1 c0) (.slice (some ⟨g1,0,none⟩) k2 c1) (.slice (some ⟨g2,0,none⟩) k3 c2) (.slice (some ⟨g3,0,none⟩) k4 c3)):=hid ((newWd_wb w fr nx (.slice (some ⟨g0,0,none⟩) k1 c0) (.slice (some ⟨g1,0,none⟩) k2 c1) (.slice (some ⟨g2,0,none⟩) k3 c2) (.slice (some ⟨g3,0,none⟩) k4 c3)).still A1)
 have HZ0:Hid (Wdb ((w.alloc (.cells (wdcs fr nx (.slice (some ⟨g0,0,none⟩) k1 c0) (.slice (some ⟨g1,0,none⟩) k2 c1) (.slice (some ⟨g2,0,none⟩) k3 c2) (.slice (some ⟨g3,0,none⟩) k4 c3)) 33)).alloc (.cells (wdcs fr nx (.slice xa k1 ya) (.slice xb k2 yb) (.slice xc k3 yc) (.slice xd k4 yd)) 33)) (w.heap.size+1) fr nx (.slice xa k1 ya) (.slice xb k2 yb) (.slice xc k3 yc) (.slice xd k4 yd)):=hid z0
 have HL:=hid hl
 have HV:=hid hv
 have HO:=hid (And.intro o0 (And.intro o1 (And.intro o2 o3)))
 obtain ⟨hb1,hb2,hb3,hb4⟩:=hb
 clear o0 o1 o2 o3 hl hv he A0 A1 z0 y0 y1 y2 y3
 obtain ⟨W0,eW0⟩:∃ X,((w.alloc (.cells (wdcs fr nx (.slice (some ⟨g0,0,none⟩) k1 c0) (.slice (some ⟨g1,0,none⟩) k2 c1) (.slice (some ⟨g2,0,none⟩) k3 c2) (.slice (some ⟨g3,0,none⟩) k4 c3)) 33)).alloc (.cells (wdcs fr nx (.slice xa k1 ya) (.slice xb k2 yb) (.slice xc k3 yc) (.slice xd k4 yd)) 33))=X:=⟨_,rfl⟩
 rw [eW0] at HS0 HW0 HZ0
 obtain ⟨d0,d1,d2,d3,d4,d5,df⟩:=HW0.out.cells
 obtain ⟨f0,f1,f2,f3,f4,f5,ff⟩:=HZ0.out.cells
 go_enter Tryz.func8,Tryz.ntmps8
 go_wp2_with fail
 refine (rsame_any W _ _ W0 (HL.out.still HS0.out) (HV.out.still HS0.out)).mono ?_
 rintro e w2 ⟨rfl,h2⟩
 have HS2:=hid (HS0.out.trans h2)
 have HW2:=hid (HW0.out.still h2)
 have HZ2:=hid (HZ0.out.still h2)
 have r0:=Cl.cell HYc.out.1 ⟨w2,HS2.out⟩
 have r1:=Cl.cell HYc.out.2.1 ⟨w2,HS2.out⟩
 have r2:=Cl.cell HYc.out.2.2.1 ⟨w2,HS2.out⟩
 have r3:=Cl.cell HYc.out.2.2.2 ⟨w2,HS2.out⟩
 clear h2 eW0 d0 d1 d2 d3 d4 d5 df f0 f1 f2 f3 f4 f5 ff HS0 HW0 HZ0
 obtain ⟨d0,d1,d2,d3,d4,d5,df⟩:=HW2.out.cells
 obtain ⟨f0,f1,f2,f3,f4,f5,ff⟩:=HZ2.out.cells
 go_wp2_with fail
 go_ret
 exact ⟨rfl,HS2.out⟩
end Go.Proofs.YtonchpgmdnekpaaGreatDoor
