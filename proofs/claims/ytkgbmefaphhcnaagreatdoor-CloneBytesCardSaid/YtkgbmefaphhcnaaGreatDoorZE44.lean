/- Parts of the proof, laid end to end. -/
import Derived.Test.YtkgbmefaphhcnaaGreatDoorZE41
import Derived.Test.YtkgbmefaphhcnaaGreatDoorZE28
import Derived.Test.YtkgbmefaphhcnaaGreatDoorZE31
import Derived.Test.YtkgbmefaphhcnaaGreatDoorZE13
import Derived.Test.YtkgbmefaphhcnaaGreatDoorZE17
namespace Go.Proofs.YtkgbmefaphhcnaaGreatDoor
open Go.RowKit
open Pu Gp Ap Vp Np Za Ka Ja Ea Ha
set_option maxRecDepth 100000
def m7 : Mv := ⟨0, 0, 0, 0, 0, 0, 0, 0, 0, false, 0, -7, 0⟩
def c7 : Scr := ⟨0, -7, 0, 0⟩
def s7 : Sh := ⟨-7, 0, 0, 0, 0, 0, 0, 0⟩
def p7 : Pk := ⟨-7, 0, 0⟩
theorem owG_cap {α : Type} {K : Kd α} {e : TypeId} {w : World} {B n cap g : Nat} {L : List α} (h : OwG K e w B (.slice (some ⟨g, 0, none⟩) (n + 1) cap) L) : n <= cap := by
 rcases h.2 with ⟨hv, _⟩ | ⟨g', cap', cur, hv, hb, hg, hn, hm, hs, ht⟩
 ·cases hv
 ·injection hv with _ h1 h2
  omega
set_option maxHeartbeats 16000000 in
theorem lent_any (W : Wd) (fr nx : Int) (xa xb xc xd : Option Addr) (k1 k2 k3 k4 ya yb yc yd : Nat) (w : World) (h1 : RdG KM w xa k1 W.ms) (h2 : RdG KC w xb k2 W.cs) (h3 : RdG KS w xc k3 W.hs) (h4 : RdG KQ w xd k4 W.ks) (hb : (k1 + 1) * 104 <= 140737488355328 /\ (k2 + 1) * 32 <= 140737488355328 /\ (k3 + 1) * 64 <= 140737488355328 /\ (k4 + 1) * 24 <= 140737488355328) :
    Calls Tryz.prog 7 #[.agg (wdcs fr nx (.slice xa k1 ya) (.slice xb k2 yb) (.slice xc k3 yc) (.slice xd k4 yd))] w fun e w' => ∃ g0 c0 g1 c1 g2 c2 g3 c3, e = .returned (.agg (wdcs fr nx (.slice (some ⟨g0, 0, none⟩) k1 c0) (.slice (some ⟨g1, 0, none⟩) k2 c1) (.slice (some ⟨g2, 0, none⟩) k3 c2) (.slice (some ⟨g3, 0, none⟩) k4 c3))) /\ OwG KM 55 w' w.heap.size (.slice (some ⟨g0, 0, none⟩) (k1 + 1) c0) (W.ms ++ [m7]) /\ OwG KC 57 w' w.heap.size (.slice (some ⟨g1, 0, none⟩) (k2 + 1) c1) (W.cs ++ [c7]) /\ OwG KS 59 w' w.heap.size (.slice (some ⟨g2, 0, none⟩) (k3 + 1) c2) (W.hs ++ [s7]) /\ OwG KQ 61 w' w.heap.size (.slice (some ⟨g3, 0, none⟩) (k4 + 1) c3) (W.ks ++ [p7]) /\ Still w w' := by
  have EL := hid (And.intro h1.1 (And.intro h2.1 (And.intro h3.1 h4.1)))
  have HR0 := hid h1
  have HR1 := hid h2
  have HR2 := hid h3
  have HR3 := hid h4
  have HBd := hid hb
  have A0 := Still.alloc w (.cells (wdcs fr nx (.slice xa k1 ya) (.slice xb k2 yb) (.slice xc k3 yc) (.slice xd k4 yd)) 27)
  have A1 := Still.alloc (w.alloc (.cells (wdcs fr nx (.slice xa k1 ya) (.slice xb k2 yb) (.slice xc k3 yc) (.slice xd k4 yd)) 27)) (.cells (wdcs 0 0 (.slice none 0 0) (.slice none 0 0) (.slice none 0 0) (.slice none 0 0)) 27)
  have z0 := newWd_wb (w.alloc (.cells (wdcs fr nx (.slice xa k1 ya) (.slice xb k2 yb) (.slice xc k3 yc) (.slice xd k4 yd)) 27)) 0 0 (.slice none 0 0) (.slice none 0 0) (.slice none 0 0) (.slice none 0 0)
  rw [size_alloc] at z0
  have HS0 : Hid (Still w ((w.alloc (.cells (wdcs fr nx (.slice xa k1 ya) (.slice xb k2 yb) (.slice xc k3 yc) (.slice xd k4 yd)) 27)).alloc (.cells (wdcs 0 0 (.slice none 0 0) (.slice none 0 0) (.slice none 0 0) (.slice none 0 0)) 27))) := hid (A0.trans A1)
  have HW0 : Hid (Wdb ((w.alloc (.cells (wdcs fr nx (.slice xa k1 ya) (.slice xb k2 yb) (.slice xc k3 yc) (.slice xd k4 yd)) 27)).alloc (.cells (wdcs 0 0 (.slice none 0 0) (.slice none 0 0) (.slice none 0 0) (.slice none 0 0)) 27)) w.heap.size fr nx (.slice xa k1 ya) (.slice xb k2 yb) (.slice xc k3 yc) (.slice xd k4 yd)) := hid ((newWd_wb w fr nx (.slice xa k1 ya) (.slice xb k2 yb) (.slice xc k3 yc) (.slice xd k4 yd)).still A1)
  have HZ0 : Hid (Wdb ((w.alloc (.cells (wdcs fr nx (.slice xa k1 ya) (.slice xb k2 yb) (.slice xc k3 yc) (.slice xd k4 yd)) 27)).alloc (.cells (wdcs 0 0 (.slice none 0 0) (.slice none 0 0) (.slice none 0 0) (.slice none 0 0)) 27)) (w.heap.size + 1) 0 0 (.slice none 0 0) (.slice none 0 0) (.slice none 0 0) (.slice none 0 0)) := hid z0
  clear h1 h2 h3 h4 hb A0 A1 z0
  obtain ⟨W0, eW0⟩ : ∃ X, ((w.alloc (.cells (wdcs fr nx (.slice xa k1 ya) (.slice xb k2 yb) (.slice xc k3 yc) (.slice xd k4 yd)) 27)).alloc (.cells (wdcs 0 0 (.slice none 0 0) (.slice none 0 0) (.slice none 0 0) (.slice none 0 0)) 27)) = X := ⟨_, rfl⟩
  rw [eW0] at HS0 HW0 HZ0
  obtain ⟨d0, d1, d2, d3, d4, d5, df⟩ := HW0.out.cells
  go_enter Tryz.func7, Tryz.ntmps7
  go_upto_region 1 with fail
  clear eW0
  go_wp2_with (first
        | (at_builtin
           refine wpList_appN KM _ rfl _ _ 22 rfl Tryz.underlying22 104 infoM _ _ _ W.ms rfl rfl (HR0.out.still HS0.out) (by have := HBd.out; omega) ?_
           intro v' u0 ho h1
           have HA0 := hid (ho.less HS0.out.size)
           have HS1 := hid (HS0.out.trans h1)
           have HW1 := hid (HW0.out.still h1)
           have HZ1 := hid (HZ0.out.still h1)
           obtain ⟨f0, f1, f2, f3, f4, f5, ff⟩ := HW1.out.cells
           obtain ⟨ao0, cp0, rfl, _⟩ := ho.slice
           have HY0 : Hid ((u0.alloc (.cells (mcs m7) 55)).heap[u0.heap.size]? = some (.cells (mcs m7) 55 (0, 0))) := hid (heap_alloc_new u0 _)
           clear ho h1 d0 d1 d2 d3 d4 d5 df)
        | (at_builtin
           refine wpList_appH KM _ rfl _ _ 22 rfl Tryz.underlying22 104 infoM w.heap.size u0.heap.size _ W.ms m7 rfl rfl (HA0.out.still (Still.alloc u0 _)) HY0.out (by have := HBd.out; have := EL.out; omega) (by have := HBd.out; have := EL.out; omega) (by have := HS1.out.size; simp; omega) ?_
           intro v' v0 ho hf
           have hT := (HA0.out.still (Still.alloc u0 _)).frT (ts := [55]) hf (Nat.le_refl _) (by simp)
           obtain ⟨g0, c0, rfl, _, _⟩ := ho.head (by simp)
           rw [show (W.ms ++ [m7]).length = k1 + 1 by have := EL.out; simp; omega] at ho ⊢
           have HO0_2 := hid ho
           have HC0 : Hid (k1 <= c0) := hid (owG_cap ho)
           have HS2 := hid (hT.old (HS1.out.trans (Still.alloc u0 _)) (Nat.le_refl _))
           have HW2 : Hid (Wdb v0 w.heap.size fr nx (.slice xa k1 ya) (.slice xb k2 yb) (.slice xc k3 yc) (.slice xd k4 yd)) := hid (hT.kept (HW1.out.still (Still.alloc u0 _)) (by decide))
           have HZ2 : Hid (Wdb v0 (w.heap.size + 1) 0 0 (.slice none 0 0) (.slice none 0 0) (.slice none 0 0) (.slice none 0 0)) := hid (hT.kept (HZ1.out.still (Still.alloc u0 _)) (by decide))
           obtain ⟨d0, d1, d2, d3, d4, d5, df⟩ := HW2.out.cells
           clear ho hf hT f0 f1 f2 f3 f4 f5 ff)
        | (at_builtin
           refine wpList_appN KC _ rfl _ _ 23 rfl Tryz.underlying23 32 infoC _ _ _ W.cs rfl rfl (HR1.out.still HS2.out) (by have := HBd.out; omega) ?_
           intro v' u1 ho h1
           have HA1 := hid (ho.less HS2.out.size)
           have HS3 := hid (HS2.out.trans h1)
           have HW3 := hid (HW2.out.still h1)
           have HZ3 := hid (HZ2.out.still h1)
           have HO0_3 := hid (HO0_2.out.still h1)
           obtain ⟨f0, f1, f2, f3, f4, f5, ff⟩ := HW3.out.cells
           obtain ⟨ao1, cp1, rfl, _⟩ := ho.slice
           have HY1 : Hid ((u1.alloc (.cells (ccs c7) 57)).heap[u1.heap.size]? = some (.cells (ccs c7) 57 (0, 0))) := hid (heap_alloc_new u1 _)
           clear ho h1 d0 d1 d2 d3 d4 d5 df)
        | (at_builtin
           refine wpList_appH KC _ rfl _ _ 23 rfl Tryz.underlying23 32 infoC w.heap.size u1.heap.size _ W.cs c7 rfl rfl (HA1.out.still (Still.alloc u1 _)) HY1.out (by have := HBd.out; have := EL.out; omega) (by have := HBd.out; have := EL.out; omega) (by have := HS3.out.size; simp; omega) ?_
           intro v' v1 ho hf
           have hT := (HA1.out.still (Still.alloc u1 _)).frT (ts := [57]) hf (Nat.le_refl _) (by simp)
           obtain ⟨g1, c1, rfl, _, _⟩ := ho.head (by simp)
           rw [show (W.cs ++ [c7]).length = k2 + 1 by have := EL.out; simp; omega] at ho ⊢
           have HO1_4 := hid ho
           have HC1 : Hid (k2 <= c1) := hid (owG_cap ho)
           have HO0_4 := hid ((HO0_3.out.still (Still.alloc u1 _)).keepT hT (by decide))
           have HS4 := hid (hT.old (HS3.out.trans (Still.alloc u1 _)) (Nat.le_refl _))
           have HW4 : Hid (Wdb v1 w.heap.size fr nx (.slice xa k1 ya) (.slice xb k2 yb) (.slice xc k3 yc) (.slice xd k4 yd)) := hid (hT.kept (HW3.out.still (Still.alloc u1 _)) (by decide))
           have HZ4 : Hid (Wdb v1 (w.heap.size + 1) 0 0 (.slice none 0 0) (.slice none 0 0) (.slice none 0 0) (.slice none 0 0)) := hid (hT.kept (HZ3.out.still (Still.alloc u1 _)) (by decide))
           obtain ⟨d0, d1, d2, d3, d4, d5, df⟩ := HW4.out.cells
           clear ho hf hT f0 f1 f2 f3 f4 f5 ff)
        | (at_builtin
           refine wpList_appN KS _ rfl _ _ 24 rfl Tryz.underlying24 64 infoS _ _ _ W.hs rfl rfl (HR2.out.still HS4.out) (by have := HBd.out; omega) ?_
           intro v' u2 ho h1
           have HA2 := hid (ho.less HS4.out.size)
           have HS5 := hid (HS4.out.trans h1)
           have HW5 := hid (HW4.out.still h1)
           have HZ5 := hid (HZ4.out.still h1)
           have HO0_5 := hid (HO0_4.out.still h1)
           have HO1_5 := hid (HO1_4.out.still h1)
           obtain ⟨f0, f1, f2, f3, f4, f5, ff⟩ := HW5.out.cells
           obtain ⟨ao2, cp2, rfl, _⟩ := ho.slice
           have HY2 : Hid ((u2.alloc (.cells (scs s7) 59)).heap[u2.heap.size]? = some (.cells (scs s7) 59 (0, 0))) := hid (heap_alloc_new u2 _)
           clear ho h1 d0 d1 d2 d3 d4 d5 df)
        | (at_builtin
           refine wpList_appH KS _ rfl _ _ 24 rfl Tryz.underlying24 64 infoS w.heap.size u2.heap.size _ W.hs s7 rfl rfl (HA2.out.still (Still.alloc u2 _)) HY2.out (by have := HBd.out; have := EL.out; omega) (by have := HBd.out; have := EL.out; omega) (by have := HS5.out.size; simp; omega) ?_
           intro v' v2 ho hf
           have hT := (HA2.out.still (Still.alloc u2 _)).frT (ts := [59]) hf (Nat.le_refl _) (by simp)
           obtain ⟨g2, c2, rfl, _, _⟩ := ho.head (by simp)
           rw [show (W.hs ++ [s7]).length = k3 + 1 by have := EL.out; simp; omega] at ho ⊢
           have HO2_6 := hid ho
           have HC2 : Hid (k3 <= c2) := hid (owG_cap ho)
           have HO0_6 := hid ((HO0_5.out.still (Still.alloc u2 _)).keepT hT (by decide))
           have HO1_6 := hid ((HO1_5.out.still (Still.alloc u2 _)).keepT hT (by decide))
           have HS6 := hid (hT.old (HS5.out.trans (Still.alloc u2 _)) (Nat.le_refl _))
           have HW6 : Hid (Wdb v2 w.heap.size fr nx (.slice xa k1 ya) (.slice xb k2 yb) (.slice xc k3 yc) (.slice xd k4 yd)) := hid (hT.kept (HW5.out.still (Still.alloc u2 _)) (by decide))
           have HZ6 : Hid (Wdb v2 (w.heap.size + 1) 0 0 (.slice none 0 0) (.slice none 0 0) (.slice none 0 0) (.slice none 0 0)) := hid (hT.kept (HZ5.out.still (Still.alloc u2 _)) (by decide))
           obtain ⟨d0, d1, d2, d3, d4, d5, df⟩ := HW6.out.cells
           clear ho hf hT f0 f1 f2 f3 f4 f5 ff)
        | (at_builtin
           refine wpList_appN KQ _ rfl _ _ 25 rfl Tryz.underlying25 24 infoQ _ _ _ W.ks rfl rfl (HR3.out.still HS6.out) (by have := HBd.out; omega) ?_
           intro v' u3 ho h1
           have HA3 := hid (ho.less HS6.out.size)
           have HS7 := hid (HS6.out.trans h1)
           have HW7 := hid (HW6.out.still h1)
           have HZ7 := hid (HZ6.out.still h1)
           have HO0_7 := hid (HO0_6.out.still h1)
           have HO1_7 := hid (HO1_6.out.still h1)
           have HO2_7 := hid (HO2_6.out.still h1)
           obtain ⟨f0, f1, f2, f3, f4, f5, ff⟩ := HW7.out.cells
           obtain ⟨ao3, cp3, rfl, _⟩ := ho.slice
           have HY3 : Hid ((u3.alloc (.cells (kcs p7) 61)).heap[u3.heap.size]? = some (.cells (kcs p7) 61 (0, 0))) := hid (heap_alloc_new u3 _)
           clear ho h1 d0 d1 d2 d3 d4 d5 df)
        | (at_builtin
           refine wpList_appH KQ _ rfl _ _ 25 rfl Tryz.underlying25 24 infoQ w.heap.size u3.heap.size _ W.ks p7 rfl rfl (HA3.out.still (Still.alloc u3 _)) HY3.out (by have := HBd.out; have := EL.out; omega) (by have := HBd.out; have := EL.out; omega) (by have := HS7.out.size; simp; omega) ?_
           intro v' v3 ho hf
           have hT := (HA3.out.still (Still.alloc u3 _)).frT (ts := [61]) hf (Nat.le_refl _) (by simp)
           obtain ⟨g3, c3, rfl, _, _⟩ := ho.head (by simp)
           rw [show (W.ks ++ [p7]).length = k4 + 1 by have := EL.out; simp; omega] at ho ⊢
           have HO3_8 := hid ho
           have HC3 : Hid (k4 <= c3) := hid (owG_cap ho)
           have HO0_8 := hid ((HO0_7.out.still (Still.alloc u3 _)).keepT hT (by decide))
           have HO1_8 := hid ((HO1_7.out.still (Still.alloc u3 _)).keepT hT (by decide))
           have HO2_8 := hid ((HO2_7.out.still (Still.alloc u3 _)).keepT hT (by decide))
           have HS8 := hid (hT.old (HS7.out.trans (Still.alloc u3 _)) (Nat.le_refl _))
           have HW8 : Hid (Wdb v3 w.heap.size fr nx (.slice xa k1 ya) (.slice xb k2 yb) (.slice xc k3 yc) (.slice xd k4 yd)) := hid (hT.kept (HW7.out.still (Still.alloc u3 _)) (by decide))
           have HZ8 : Hid (Wdb v3 (w.heap.size + 1) 0 0 (.slice none 0 0) (.slice none 0 0) (.slice none 0 0) (.slice none 0 0)) := hid (hT.kept (HZ7.out.still (Still.alloc u3 _)) (by decide))
           obtain ⟨d0, d1, d2, d3, d4, d5, df⟩ := HW8.out.cells
           have t0 : ∀ W' : World, (Instr.slice 22 (.slice (some ⟨g0, 0, none⟩) (k1 + 1) c0) none (some (.int .i64 (k1 : Int))) none).run Tryz.prog W' = .ok (.slice (some ⟨g0, 0, none⟩) k1 c0) W' := fun W' => by have h := run_uptoG (P := Tryz.prog) Tryz.underlying22 (e := 55) ⟨_, rfl⟩ W' (some ⟨g0, 0, none⟩) (k1 + 1) c0 (k1 : Int) (by omega) (by have := HC0.out; omega); rw [Int.toNat_natCast] at h; exact h
           have t1 : ∀ W' : World, (Instr.slice 23 (.slice (some ⟨g1, 0, none⟩) (k2 + 1) c1) none (some (.int .i64 (k2 : Int))) none).run Tryz.prog W' = .ok (.slice (some ⟨g1, 0, none⟩) k2 c1) W' := fun W' => by have h := run_uptoG (P := Tryz.prog) Tryz.underlying23 (e := 57) ⟨_, rfl⟩ W' (some ⟨g1, 0, none⟩) (k2 + 1) c1 (k2 : Int) (by omega) (by have := HC1.out; omega); rw [Int.toNat_natCast] at h; exact h
           have t2 : ∀ W' : World, (Instr.slice 24 (.slice (some ⟨g2, 0, none⟩) (k3 + 1) c2) none (some (.int .i64 (k3 : Int))) none).run Tryz.prog W' = .ok (.slice (some ⟨g2, 0, none⟩) k3 c2) W' := fun W' => by have h := run_uptoG (P := Tryz.prog) Tryz.underlying24 (e := 59) ⟨_, rfl⟩ W' (some ⟨g2, 0, none⟩) (k3 + 1) c2 (k3 : Int) (by omega) (by have := HC2.out; omega); rw [Int.toNat_natCast] at h; exact h
           have t3 : ∀ W' : World, (Instr.slice 25 (.slice (some ⟨g3, 0, none⟩) (k4 + 1) c3) none (some (.int .i64 (k4 : Int))) none).run Tryz.prog W' = .ok (.slice (some ⟨g3, 0, none⟩) k4 c3) W' := fun W' => by have h := run_uptoG (P := Tryz.prog) Tryz.underlying25 (e := 61) ⟨_, rfl⟩ W' (some ⟨g3, 0, none⟩) (k4 + 1) c3 (k4 : Int) (by omega) (by have := HC3.out; omega); rw [Int.toNat_natCast] at h; exact h
           have ty := HW8.out.ty
           have K1 := HW8.out.s1 (.slice (some ⟨g0, 0, none⟩) k1 c0)
           have K2 := K1.s2 (.slice (some ⟨g1, 0, none⟩) k2 c1)
           have K3 := K2.s3 (.slice (some ⟨g2, 0, none⟩) k3 c2)
           have K4 := hid (K3.s4 (.slice (some ⟨g3, 0, none⟩) k4 c3))
           have ty1 := K1.ty
           have ty2 := K2.ty
           have ty3 := K3.ty
           have Q0 := hid ((((HO0_8.out.setO (o := 1) ty (by decide) (.slice (some ⟨g0, 0, none⟩) k1 c0)).setO (o := 2) ty1 (by decide) (.slice (some ⟨g1, 0, none⟩) k2 c1)).setO (o := 3) ty2 (by decide) (.slice (some ⟨g2, 0, none⟩) k3 c2)).setO (o := 4) ty3 (by decide) (.slice (some ⟨g3, 0, none⟩) k4 c3))
           have Q1 := hid ((((HO1_8.out.setO (o := 1) ty (by decide) (.slice (some ⟨g0, 0, none⟩) k1 c0)).setO (o := 2) ty1 (by decide) (.slice (some ⟨g1, 0, none⟩) k2 c1)).setO (o := 3) ty2 (by decide) (.slice (some ⟨g2, 0, none⟩) k3 c2)).setO (o := 4) ty3 (by decide) (.slice (some ⟨g3, 0, none⟩) k4 c3))
           have Q2 := hid ((((HO2_8.out.setO (o := 1) ty (by decide) (.slice (some ⟨g0, 0, none⟩) k1 c0)).setO (o := 2) ty1 (by decide) (.slice (some ⟨g1, 0, none⟩) k2 c1)).setO (o := 3) ty2 (by decide) (.slice (some ⟨g2, 0, none⟩) k3 c2)).setO (o := 4) ty3 (by decide) (.slice (some ⟨g3, 0, none⟩) k4 c3))
           have Q3 := hid ((((HO3_8.out.setO (o := 1) ty (by decide) (.slice (some ⟨g0, 0, none⟩) k1 c0)).setO (o := 2) ty1 (by decide) (.slice (some ⟨g1, 0, none⟩) k2 c1)).setO (o := 3) ty2 (by decide) (.slice (some ⟨g2, 0, none⟩) k3 c2)).setO (o := 4) ty3 (by decide) (.slice (some ⟨g3, 0, none⟩) k4 c3))
           have hnz : w.heap.size + 1 ≠ w.heap.size := by omega
           have HZ9 := hid ((((HZ8.out.other (k := w.heap.size) (o := 1) (v := (.slice (some ⟨g0, 0, none⟩) k1 c0)) hnz).other (k := w.heap.size) (o := 2) (v := (.slice (some ⟨g1, 0, none⟩) k2 c1)) hnz).other (k := w.heap.size) (o := 3) (v := (.slice (some ⟨g2, 0, none⟩) k3 c2)) hnz).other (k := w.heap.size) (o := 4) (v := (.slice (some ⟨g3, 0, none⟩) k4 c3)) hnz)
           have HS9 := hid ((((HS8.out.setCell ⟨w.heap.size, 1, none⟩ (.slice (some ⟨g0, 0, none⟩) k1 c0) (.inr (Nat.le_refl _))).setCell ⟨w.heap.size, 2, none⟩ (.slice (some ⟨g1, 0, none⟩) k2 c1) (.inr (Nat.le_refl _))).setCell ⟨w.heap.size, 3, none⟩ (.slice (some ⟨g2, 0, none⟩) k3 c2) (.inr (Nat.le_refl _))).setCell ⟨w.heap.size, 4, none⟩ (.slice (some ⟨g3, 0, none⟩) k4 c3) (.inr (Nat.le_refl _)))
           obtain ⟨W8, eW8⟩ : ∃ X, ((((v3.setCell ⟨w.heap.size, 1, none⟩ (.slice (some ⟨g0, 0, none⟩) k1 c0)).setCell ⟨w.heap.size, 2, none⟩ (.slice (some ⟨g1, 0, none⟩) k2 c1)).setCell ⟨w.heap.size, 3, none⟩ (.slice (some ⟨g2, 0, none⟩) k3 c2)).setCell ⟨w.heap.size, 4, none⟩ (.slice (some ⟨g3, 0, none⟩) k4 c3)) = X := ⟨_, rfl⟩
           rw [eW8] at K4 Q0 Q1 Q2 Q3 HZ9 HS9
           obtain ⟨z0, z1, z2, z3, z4, z5, zf⟩ := HZ9.out.cells
           obtain ⟨y0, y1, y2, y3, y4, y5, yf⟩ := K4.out.cells
           clear K1 K2 K3 ty ty1 ty2 ty3 hnz
           clear ho hf hT f0 f1 f2 f3 f4 f5 ff))
  have ty := HZ9.out.ty
  refine bodyPost_ret (Wdb.res1 (HZ9.out.put fr nx _ _ _ _) rfl _ rfl) rfl ⟨_, _, _, _, _, _, _, _, rfl, Q0.out.set6 ty (by decide) _ _ _ _ _ _, Q1.out.set6 ty (by decide) _ _ _ _ _ _, Q2.out.set6 ty (by decide) _ _ _ _ _ _, Q3.out.set6 ty (by decide) _ _ _ _ _ _, still_set6 HS9.out (by omega) _ _ _ _ _ _⟩
end Go.Proofs.YtkgbmefaphhcnaaGreatDoor
namespace Go.Proofs.YtkgbmefaphhcnaaGreatDoor
open Go.RowKit
open Pu Gp Ap Vp Np Za Ka Ja Ea Ha Hg Hi
set_option maxRecDepth 100000
set_option linter.unusedVariables false
def Btw (B D k : Nat) : Prop := B <= k /\ k < D
structure Sj (w u : World) (B D : Nat) (fr nx : Int) (a b c d : Value) (ms : List Mv) (cs : List Scr) (hs : List Sh) (ks : List Pk) : Prop where
 oa : OwG KM 55 u B a ms
 ob : OwG KC 57 u B b cs
 oc : OwG KS 59 u B c hs
 od : OwG KQ 61 u B d ks
 wb : Wdb u w.heap.size fr nx a b c d
 f : Fr (Btw B D) w u
theorem Sj.put1 {w u : World} {B D : Nat} {fr nx : Int} {b c d : Value} {ms : List Mv} {cs : List Scr} {hs : List Sh} {ks : List Pk} {g n y : Nat} (h : Sj w u B D fr nx (.slice (some ⟨g, 0, none⟩) n y) b c d ms cs hs ks) (hg : g < D) {i : Nat} (hi : i < ms.length) (x : Mv) : Sj w (u.setCells g (i * KM.k) (KM.f x)) B D fr nx (.slice (some ⟨g, 0, none⟩) n y) b c d (ms.set i x) cs hs ks := by
 have hT := OwG.setT h.oa (ts := [55]) (by simp) (KM.f x) (i * KM.k) u (FrT.refl _ _ _) (h.oa.ty rfl)
 exact ⟨h.oa.put hi x, h.ob.keepT hT (by decide), h.oc.keepT hT (by decide), h.od.keepT hT (by decide), hT.kept h.wb (by decide), fr_setCells g _ _ u h.f (.inl ⟨(h.oa.block (k := g) rfl).1, hg⟩)⟩
theorem Sj.app1 {w u : World} {B D : Nat} {fr nx : Int} {a b c d : Value} {ms : List Mv} {cs : List Scr} {hs : List Sh} {ks : List Pk} (h : Sj w u B D fr nx a b c d ms cs hs ks) (hd : ∀ k, a.ownBlock = some k -> k < D) {x : Mv} {v' : Value} {v0 : World} (ho : OwG KM 55 v0 B v' (ms ++ [x])) (hf : Fr (fun k => a.ownBlock = some k) (u.alloc (.cells (mcs x) 55)) v0) : Sj w (v0.setCell ⟨w.heap.size, 1, none⟩ v') B D fr nx v' b c d (ms ++ [x]) cs hs ks := by
 have A := Still.alloc u (.cells (mcs x) 55)
 have hT := (h.oa.still A).frT (ts := [55]) hf (Nat.le_refl _) (by simp)
 have hw := hT.kept (h.wb.still A) (by decide)
 have ty := Wdb.ty hw
 exact ⟨ho.setO ty (by decide) v', ((h.ob.still A).keepT hT (by decide)).setO ty (by decide) v', ((h.oc.still A).keepT hT (by decide)).setO ty (by decide) v', ((h.od.still A).keepT hT (by decide)).setO ty (by decide) v', Wdb.s1 hw v', Fr.setCell (Fr.trans (F := Btw B D) (h.f.alloc _) hf (fun k hk e => ⟨(h.oa.block e).1, hd k e⟩)) _ v' (.inr (Nat.le_refl _))⟩
theorem Sj.put2 {w u : World} {B D : Nat} {fr nx : Int} {a c d : Value} {ms : List Mv} {cs : List Scr} {hs : List Sh} {ks : List Pk} {g n y : Nat} (h : Sj w u B D fr nx a (.slice (some ⟨g, 0, none⟩) n y) c d ms cs hs ks) (hg : g < D) {i : Nat} (hi : i < cs.length) (x : Scr) : Sj w (u.setCells g (i * KC.k) (KC.f x)) B D fr nx a (.slice (some ⟨g, 0, none⟩) n y) c d ms (cs.set i x) hs ks := by
 have hT := OwG.setT h.ob (ts := [57]) (by simp) (KC.f x) (i * KC.k) u (FrT.refl _ _ _) (h.ob.ty rfl)
 exact ⟨h.oa.keepT hT (by decide), h.ob.put hi x, h.oc.keepT hT (by decide), h.od.keepT hT (by decide), hT.kept h.wb (by decide), fr_setCells g _ _ u h.f (.inl ⟨(h.ob.block (k := g) rfl).1, hg⟩)⟩
theorem Sj.app2 {w u : World} {B D : Nat} {fr nx : Int} {a b c d : Value} {ms : List Mv} {cs : List Scr} {hs : List Sh} {ks : List Pk} (h : Sj w u B D fr nx a b c d ms cs hs ks) (hd : ∀ k, b.ownBlock = some k -> k < D) {x : Scr} {v' : Value} {v0 : World} (ho : OwG KC 57 v0 B v' (cs ++ [x])) (hf : Fr (fun k => b.ownBlock = some k) (u.alloc (.cells (ccs x) 57)) v0) : Sj w (v0.setCell ⟨w.heap.size, 2, none⟩ v') B D fr nx a v' c d ms (cs ++ [x]) hs ks := by
 have A := Still.alloc u (.cells (ccs x) 57)
 have hT := (h.ob.still A).frT (ts := [57]) hf (Nat.le_refl _) (by simp)
 have hw := hT.kept (h.wb.still A) (by decide)
 have ty := Wdb.ty hw
 exact ⟨((h.oa.still A).keepT hT (by decide)).setO ty (by decide) v', ho.setO ty (by decide) v', ((h.oc.still A).keepT hT (by decide)).setO ty (by decide) v', ((h.od.still A).keepT hT (by decide)).setO ty (by decide) v', Wdb.s2 hw v', Fr.setCell (Fr.trans (F := Btw B D) (h.f.alloc _) hf (fun k hk e => ⟨(h.ob.block e).1, hd k e⟩)) _ v' (.inr (Nat.le_refl _))⟩
theorem Sj.put3 {w u : World} {B D : Nat} {fr nx : Int} {a b d : Value} {ms : List Mv} {cs : List Scr} {hs : List Sh} {ks : List Pk} {g n y : Nat} (h : Sj w u B D fr nx a b (.slice (some ⟨g, 0, none⟩) n y) d ms cs hs ks) (hg : g < D) {i : Nat} (hi : i < hs.length) (x : Sh) : Sj w (u.setCells g (i * KS.k) (KS.f x)) B D fr nx a b (.slice (some ⟨g, 0, none⟩) n y) d ms cs (hs.set i x) ks := by
 have hT := OwG.setT h.oc (ts := [59]) (by simp) (KS.f x) (i * KS.k) u (FrT.refl _ _ _) (h.oc.ty rfl)
 exact ⟨h.oa.keepT hT (by decide), h.ob.keepT hT (by decide), h.oc.put hi x, h.od.keepT hT (by decide), hT.kept h.wb (by decide), fr_setCells g _ _ u h.f (.inl ⟨(h.oc.block (k := g) rfl).1, hg⟩)⟩
theorem Sj.app3 {w u : World} {B D : Nat} {fr nx : Int} {a b c d : Value} {ms : List Mv} {cs : List Scr} {hs : List Sh} {ks : List Pk} (h : Sj w u B D fr nx a b c d ms cs hs ks) (hd : ∀ k, c.ownBlock = some k -> k < D) {x : Sh} {v' : Value} {v0 : World} (ho : OwG KS 59 v0 B v' (hs ++ [x])) (hf : Fr (fun k => c.ownBlock = some k) (u.alloc (.cells (scs x) 59)) v0) : Sj w (v0.setCell ⟨w.heap.size, 3, none⟩ v') B D fr nx a b v' d ms cs (hs ++ [x]) ks := by
 have A := Still.alloc u (.cells (scs x) 59)
 have hT := (h.oc.still A).frT (ts := [59]) hf (Nat.le_refl _) (by simp)
 have hw := hT.kept (h.wb.still A) (by decide)
 have ty := Wdb.ty hw
 exact ⟨((h.oa.still A).keepT hT (by decide)).setO ty (by decide) v', ((h.ob.still A).keepT hT (by decide)).setO ty (by decide) v', ho.setO ty (by decide) v', ((h.od.still A).keepT hT (by decide)).setO ty (by decide) v', Wdb.s3 hw v', Fr.setCell (Fr.trans (F := Btw B D) (h.f.alloc _) hf (fun k hk e => ⟨(h.oc.block e).1, hd k e⟩)) _ v' (.inr (Nat.le_refl _))⟩
theorem Sj.put4 {w u : World} {B D : Nat} {fr nx : Int} {a b c : Value} {ms : List Mv} {cs : List Scr} {hs : List Sh} {ks : List Pk} {g n y : Nat} (h : Sj w u B D fr nx a b c (.slice (some ⟨g, 0, none⟩) n y) ms cs hs ks) (hg : g < D) {i : Nat} (hi : i < ks.length) (x : Pk) : Sj w (u.setCells g (i * KQ.k) (KQ.f x)) B D fr nx a b c (.slice (some ⟨g, 0, none⟩) n y) ms cs hs (ks.set i x) := by
 have hT := OwG.setT h.od (ts := [61]) (by simp) (KQ.f x) (i * KQ.k) u (FrT.refl _ _ _) (h.od.ty rfl)
 exact ⟨h.oa.keepT hT (by decide), h.ob.keepT hT (by decide), h.oc.keepT hT (by decide), h.od.put hi x, hT.kept h.wb (by decide), fr_setCells g _ _ u h.f (.inl ⟨(h.od.block (k := g) rfl).1, hg⟩)⟩
theorem Sj.app4 {w u : World} {B D : Nat} {fr nx : Int} {a b c d : Value} {ms : List Mv} {cs : List Scr} {hs : List Sh} {ks : List Pk} (h : Sj w u B D fr nx a b c d ms cs hs ks) (hd : ∀ k, d.ownBlock = some k -> k < D) {x : Pk} {v' : Value} {v0 : World} (ho : OwG KQ 61 v0 B v' (ks ++ [x])) (hf : Fr (fun k => d.ownBlock = some k) (u.alloc (.cells (kcs x) 61)) v0) : Sj w (v0.setCell ⟨w.heap.size, 4, none⟩ v') B D fr nx a b c v' ms cs hs (ks ++ [x]) := by
 have A := Still.alloc u (.cells (kcs x) 61)
 have hT := (h.od.still A).frT (ts := [61]) hf (Nat.le_refl _) (by simp)
 have hw := hT.kept (h.wb.still A) (by decide)
 have ty := Wdb.ty hw
 exact ⟨((h.oa.still A).keepT hT (by decide)).setO ty (by decide) v', ((h.ob.still A).keepT hT (by decide)).setO ty (by decide) v', ((h.oc.still A).keepT hT (by decide)).setO ty (by decide) v', ho.setO ty (by decide) v', Wdb.s4 hw v', Fr.setCell (Fr.trans (F := Btw B D) (h.f.alloc _) hf (fun k hk e => ⟨(h.od.block e).1, hd k e⟩)) _ v' (.inr (Nat.le_refl _))⟩
def spN (k1 k2 k3 k4 : Nat) : Int := (k1 : Int) + 1 + ((k2 : Int) + 1) + ((k3 : Int) + 1) + ((k4 : Int) + 1)
set_option maxHeartbeats 16000000 in
theorem spoil14_any (fr nx : Int) (xa xb xc xd : Option Addr) (k1 k2 k3 k4 ya yb yc yd : Nat) (ms : List Mv) (cs : List Scr) (hs : List Sh) (ks : List Pk) (B D : Nat) (w : World) (hl1 : ms.length = k1) (hl2 : cs.length = k2) (hl3 : hs.length = k3) (hl4 : ks.length = k4) (oa : OwG KM 55 w B (.slice xa k1 ya) ms) (ob : OwG KC 57 w B (.slice xb k2 yb) cs) (oc : OwG KS 59 w B (.slice xc k3 yc) hs) (od : OwG KQ 61 w B (.slice xd k4 yd) ks) (hb : (k1 + 1) * 104 <= 140737488355328 /\ (k2 + 1) * 32 <= 140737488355328 /\ (k3 + 1) * 64 <= 140737488355328 /\ (k4 + 1) * 24 <= 140737488355328) (hBw : B <= w.heap.size)
    (d1 : ∀ k, (Value.slice xa k1 ya).ownBlock = some k -> k < D) (d2 : ∀ k, (Value.slice xb k2 yb).ownBlock = some k -> k < D) (d3 : ∀ k, (Value.slice xc k3 yc).ownBlock = some k -> k < D) (d4 : ∀ k, (Value.slice xd k4 yd).ownBlock = some k -> k < D) :
    Calls Tryz.prog 10 #[.agg (wdcs fr nx (.slice xa k1 ya) (.slice xb k2 yb) (.slice xc k3 yc) (.slice xd k4 yd))] w fun e w' => e = .returned (.int .i64 (spN k1 k2 k3 k4)) /\ Fr (Btw B D) w w' := by
  have A0 := Still.alloc w (.cells (wdcs fr nx (.slice xa k1 ya) (.slice xb k2 yb) (.slice xc k3 yc) (.slice xd k4 yd)) 27)
  have HI0 := hid (show Sj w (w.alloc (.cells (wdcs fr nx (.slice xa k1 ya) (.slice xb k2 yb) (.slice xc k3 yc) (.slice xd k4 yd)) 27)) B D fr nx (.slice xa k1 ya) (.slice xb k2 yb) (.slice xc k3 yc) (.slice xd k4 yd) ms cs hs ks from ⟨oa.still A0, ob.still A0, oc.still A0, od.still A0, newWd_wb w fr nx _ _ _ _, (Fr.refl _ w).alloc _⟩)
  have HD := hid (And.intro d1 (And.intro d2 (And.intro d3 d4)))
  have HBd := hid hb
  have HBw := hid hBw
  have HL := hid (And.intro hl1 (And.intro hl2 (And.intro hl3 hl4)))
  have b1 : k1 <= 281474976710656 := by omega
  have b2 : k2 <= 281474976710656 := by omega
  have b3 : k3 <= 281474976710656 := by omega
  have b4 : k4 <= 281474976710656 := by omega
  clear A0 oa ob oc od hl1 hl2 hl3 hl4 d1 d2 d3 d4 hb hBw
  obtain ⟨W0, eW0⟩ : ∃ X, w.alloc (.cells (wdcs fr nx (.slice xa k1 ya) (.slice xb k2 yb) (.slice xc k3 yc) (.slice xd k4 yd)) 27) = X := ⟨_, rfl⟩
  rw [eW0] at HI0
  go_enter Tryz.func10, Tryz.ntmps10
  go_wp2_with fail
  clear eW0
  go_loopw [3] (fun u wr => ∃ i : Nat, i <= k1 /\ u = .int .i64 (i : Int) /\ Hid (∃ ms cs hs ks, (ms.length = k1 /\ cs.length = k2 /\ hs.length = k3 /\ ks.length = k4) /\ Sj w wr B D fr nx (.slice xa k1 ya) (.slice xb k2 yb) (.slice xc k3 yc) (.slice xd k4 yd) ms cs hs ks)) (fun u _ => k1 - (intOf u).toNat)
  case atStart => exact ⟨0, by omega, rfl, hid ⟨_, _, _, _, HL.out, HI0.out⟩⟩
  case round =>
    clear HI0 HL
    obtain ⟨i, hi, rfl, HI⟩ := hrel
    by_cases hin : i < k1
    · have hlt : (i : Int) < (k1 : Int) := by omega
      obtain ⟨ms, cs, hs, ks, hL, hS⟩ := HI.out
      clear HI
      obtain ⟨c0, c1, c2, c3, c4, c5, cf⟩ := hS.wb.cells
      have oo := hS.oa
      obtain ⟨gm, cpm, hv, hv1, hv2⟩ := oo.head (by omega)
      simp only [Value.slice.injEq] at hv
      obtain ⟨rfl, hv3, hv4⟩ := hv
      obtain ⟨d0, d1, d2, d3, d4, d5, d6, d7, d8, d9, d10, d11, d12, df⟩ := owM oo (i := i) (by omega)
      have hsub : IntKind.i64.wrap (-1 - (i : Int)) = -1 - (i : Int) := by rw [IntKind.wrap_i64]; omega
      have HPt := hid (hS.put1 (HD.out.1 gm rfl) (i := i) (by omega) ⟨0, 0, 0, 0, 0, 0, 0, 0, 0, false, 0, -1 - (i : Int), 0⟩)
      obtain ⟨zz, ezz⟩ : ∃ z, mm ms i = z := ⟨_, rfl⟩
      rw [ezz] at d0 d1 d2 d3 d4 d5 d6 d7 d8 d9 d10 d11 d12
      obtain ⟨W4, eW4⟩ : ∃ W, (((((((((((((wr.setCell ⟨gm, i * 13, none⟩ (.int .i64 0)).setCell ⟨gm, i * 13 + 1, none⟩ (.int .i64 0)).setCell ⟨gm, i * 13 + 2, none⟩ (.int .i64 0)).setCell ⟨gm, i * 13 + 3, none⟩ (.int .i64 0)).setCell ⟨gm, i * 13 + 4, none⟩ (.int .i64 0)).setCell ⟨gm, i * 13 + 5, none⟩ (.int .i64 0)).setCell ⟨gm, i * 13 + 6, none⟩ (.int .i64 0)).setCell ⟨gm, i * 13 + 7, none⟩ (.int .i64 0)).setCell ⟨gm, i * 13 + 8, none⟩ (.int .i64 0)).setCell ⟨gm, i * 13 + 9, none⟩ (.bool false)).setCell ⟨gm, i * 13 + 10, none⟩ (.int .i64 0)).setCell ⟨gm, i * 13 + 11, none⟩ (.int .i64 (-1 - (i : Int)))).setCell ⟨gm, i * 13 + 12, none⟩ (.int .i64 0)) = W := ⟨_, rfl⟩
      have HP4 : Hid (∃ ms cs hs ks, (ms.length = k1 /\ cs.length = k2 /\ hs.length = k3 /\ ks.length = k4) /\ Sj w W4 B D fr nx (.slice (some ⟨gm, 0, none⟩) k1 ya) (.slice xb k2 yb) (.slice xc k3 yc) (.slice xd k4 yd) ms cs hs ks) := hid (by rw [<- eW4]; exact ⟨_, _, _, _, (by simp only [List.length_set]; exact hL), HPt.out⟩)
      clear HPt hL hS oo hv1 hv2 hv3 hv4 ezz
      go_wp2_with fail
      go_roundw
      case rel => exact ⟨i + 1, by omega, by go_num, HP4⟩
      case measure => first | (simp [intOf]; done) | (simp [intOf]; omega)
    have hge : ¬ (i : Int) < (k1 : Int) := by omega
    have HI1 := HI
    obtain ⟨ms, cs, hs, ks, hL, hS⟩ := HI1.out
    obtain ⟨c0, c1, c2, c3, c4, c5, cf⟩ := hS.wb.cells
    clear HI hL hS hi hin
    go_wp2_with fail
    clear c0 c1 c2 c3 c4 c5 cf hge
    go_loopw [4] (fun u wr => ∃ i : Nat, i <= k2 /\ u = .int .i64 (i : Int) /\ Hid (∃ ms cs hs ks, (ms.length = k1 /\ cs.length = k2 /\ hs.length = k3 /\ ks.length = k4) /\ Sj w wr B D fr nx (.slice xa k1 ya) (.slice xb k2 yb) (.slice xc k3 yc) (.slice xd k4 yd) ms cs hs ks)) (fun u _ => k2 - (intOf u).toNat)
    case atStart => exact ⟨0, by omega, rfl, HI1⟩
    case round =>
      clear HI1
      obtain ⟨i, hi, rfl, HI⟩ := hrel
      by_cases hin : i < k2
      · have hlt : (i : Int) < (k2 : Int) := by omega
        obtain ⟨ms, cs, hs, ks, hL, hS⟩ := HI.out
        clear HI
        obtain ⟨c0, c1, c2, c3, c4, c5, cf⟩ := hS.wb.cells
        have oo := hS.ob
        obtain ⟨gm, cpm, hv, hv1, hv2⟩ := oo.head (by omega)
        simp only [Value.slice.injEq] at hv
        obtain ⟨rfl, hv3, hv4⟩ := hv
        obtain ⟨d0, d1, d2, d3, df⟩ := owC oo (i := i) (by omega)
        have hsub : IntKind.i64.wrap (-1 - (i : Int)) = -1 - (i : Int) := by rw [IntKind.wrap_i64]; omega
        have HPt := hid (hS.put2 (HD.out.2.1 gm rfl) (i := i) (by omega) ⟨0, -1 - (i : Int), 0, 0⟩)
        obtain ⟨zz, ezz⟩ : ∃ z, sc cs i = z := ⟨_, rfl⟩
        rw [ezz] at d0 d1 d2 d3
        obtain ⟨W4, eW4⟩ : ∃ W, ((((wr.setCell ⟨gm, i * 4, none⟩ (.int .i64 0)).setCell ⟨gm, i * 4 + 1, none⟩ (.int .i64 (-1 - (i : Int)))).setCell ⟨gm, i * 4 + 2, none⟩ (.int .i64 0)).setCell ⟨gm, i * 4 + 3, none⟩ (.int .i64 0)) = W := ⟨_, rfl⟩
        have HP4 : Hid (∃ ms cs hs ks, (ms.length = k1 /\ cs.length = k2 /\ hs.length = k3 /\ ks.length = k4) /\ Sj w W4 B D fr nx (.slice xa k1 ya) (.slice (some ⟨gm, 0, none⟩) k2 yb) (.slice xc k3 yc) (.slice xd k4 yd) ms cs hs ks) := hid (by rw [<- eW4]; exact ⟨_, _, _, _, (by simp only [List.length_set]; exact hL), HPt.out⟩)
        clear HPt hL hS oo hv1 hv2 hv3 hv4 ezz
        go_wp2_with fail
        go_roundw
        case rel => exact ⟨i + 1, by omega, by go_num, HP4⟩
        case measure => first | (simp [intOf]; done) | (simp [intOf]; omega)
      have hge : ¬ (i : Int) < (k2 : Int) := by omega
      have HI1 := HI
      obtain ⟨ms, cs, hs, ks, hL, hS⟩ := HI1.out
      obtain ⟨c0, c1, c2, c3, c4, c5, cf⟩ := hS.wb.cells
      clear HI hL hS hi hin
      go_wp2_with fail
      clear c0 c1 c2 c3 c4 c5 cf hge
      go_loopw [5] (fun u wr => ∃ i : Nat, i <= k3 /\ u = .int .i64 (i : Int) /\ Hid (∃ ms cs hs ks, (ms.length = k1 /\ cs.length = k2 /\ hs.length = k3 /\ ks.length = k4) /\ Sj w wr B D fr nx (.slice xa k1 ya) (.slice xb k2 yb) (.slice xc k3 yc) (.slice xd k4 yd) ms cs hs ks)) (fun u _ => k3 - (intOf u).toNat)
      case atStart => exact ⟨0, by omega, rfl, HI1⟩
      case round =>
        clear HI1
        obtain ⟨i, hi, rfl, HI⟩ := hrel
        by_cases hin : i < k3
        · have hlt : (i : Int) < (k3 : Int) := by omega
          obtain ⟨ms, cs, hs, ks, hL, hS⟩ := HI.out
          clear HI
          obtain ⟨c0, c1, c2, c3, c4, c5, cf⟩ := hS.wb.cells
          have oo := hS.oc
          obtain ⟨gm, cpm, hv, hv1, hv2⟩ := oo.head (by omega)
          simp only [Value.slice.injEq] at hv
          obtain ⟨rfl, hv3, hv4⟩ := hv
          obtain ⟨d0, d1, d2, d3, d4, d5, d6, d7, df⟩ := owS oo (i := i) (by omega)
          have hsub : IntKind.i64.wrap (-1 - (i : Int)) = -1 - (i : Int) := by rw [IntKind.wrap_i64]; omega
          have HPt := hid (hS.put3 (HD.out.2.2.1 gm rfl) (i := i) (by omega) ⟨-1 - (i : Int), 0, 0, 0, 0, 0, 0, 0⟩)
          obtain ⟨zz, ezz⟩ : ∃ z, ss hs i = z := ⟨_, rfl⟩
          rw [ezz] at d0 d1 d2 d3 d4 d5 d6 d7
          obtain ⟨W4, eW4⟩ : ∃ W, ((((((((wr.setCell ⟨gm, i * 8, none⟩ (.int .i64 (-1 - (i : Int)))).setCell ⟨gm, i * 8 + 1, none⟩ (.int .i64 0)).setCell ⟨gm, i * 8 + 2, none⟩ (.int .i64 0)).setCell ⟨gm, i * 8 + 3, none⟩ (.int .i64 0)).setCell ⟨gm, i * 8 + 4, none⟩ (.int .i64 0)).setCell ⟨gm, i * 8 + 5, none⟩ (.int .i64 0)).setCell ⟨gm, i * 8 + 6, none⟩ (.int .i64 0)).setCell ⟨gm, i * 8 + 7, none⟩ (.int .i64 0)) = W := ⟨_, rfl⟩
          have HP4 : Hid (∃ ms cs hs ks, (ms.length = k1 /\ cs.length = k2 /\ hs.length = k3 /\ ks.length = k4) /\ Sj w W4 B D fr nx (.slice xa k1 ya) (.slice xb k2 yb) (.slice (some ⟨gm, 0, none⟩) k3 yc) (.slice xd k4 yd) ms cs hs ks) := hid (by rw [<- eW4]; exact ⟨_, _, _, _, (by simp only [List.length_set]; exact hL), HPt.out⟩)
          clear HPt hL hS oo hv1 hv2 hv3 hv4 ezz
          go_wp2_with fail
          go_roundw
          case rel => exact ⟨i + 1, by omega, by go_num, HP4⟩
          case measure => first | (simp [intOf]; done) | (simp [intOf]; omega)
        have hge : ¬ (i : Int) < (k3 : Int) := by omega
        have HI1 := HI
        obtain ⟨ms, cs, hs, ks, hL, hS⟩ := HI1.out
        obtain ⟨c0, c1, c2, c3, c4, c5, cf⟩ := hS.wb.cells
        clear HI hL hS hi hin
        go_wp2_with fail
        clear c0 c1 c2 c3 c4 c5 cf hge
        go_loopw [6] (fun u wr => ∃ i : Nat, i <= k4 /\ u = .int .i64 (i : Int) /\ Hid (∃ ms cs hs ks, (ms.length = k1 /\ cs.length = k2 /\ hs.length = k3 /\ ks.length = k4) /\ Sj w wr B D fr nx (.slice xa k1 ya) (.slice xb k2 yb) (.slice xc k3 yc) (.slice xd k4 yd) ms cs hs ks)) (fun u _ => k4 - (intOf u).toNat)
        case atStart => exact ⟨0, by omega, rfl, HI1⟩
        case round =>
          clear HI1
          obtain ⟨i, hi, rfl, HI⟩ := hrel
          by_cases hin : i < k4
          · have hlt : (i : Int) < (k4 : Int) := by omega
            obtain ⟨ms, cs, hs, ks, hL, hS⟩ := HI.out
            clear HI
            obtain ⟨c0, c1, c2, c3, c4, c5, cf⟩ := hS.wb.cells
            have oo := hS.od
            obtain ⟨gm, cpm, hv, hv1, hv2⟩ := oo.head (by omega)
            simp only [Value.slice.injEq] at hv
            obtain ⟨rfl, hv3, hv4⟩ := hv
            obtain ⟨d0, d1, d2, df⟩ := owQ oo (i := i) (by omega)
            have hsub : IntKind.i64.wrap (-1 - (i : Int)) = -1 - (i : Int) := by rw [IntKind.wrap_i64]; omega
            have HPt := hid (hS.put4 (HD.out.2.2.2 gm rfl) (i := i) (by omega) ⟨-1 - (i : Int), 0, 0⟩)
            obtain ⟨zz, ezz⟩ : ∃ z, pk ks i = z := ⟨_, rfl⟩
            rw [ezz] at d0 d1 d2
            obtain ⟨W4, eW4⟩ : ∃ W, (((wr.setCell ⟨gm, i * 3, none⟩ (.int .i64 (-1 - (i : Int)))).setCell ⟨gm, i * 3 + 1, none⟩ (.int .i64 0)).setCell ⟨gm, i * 3 + 2, none⟩ (.int .i64 0)) = W := ⟨_, rfl⟩
            have HP4 : Hid (∃ ms cs hs ks, (ms.length = k1 /\ cs.length = k2 /\ hs.length = k3 /\ ks.length = k4) /\ Sj w W4 B D fr nx (.slice xa k1 ya) (.slice xb k2 yb) (.slice xc k3 yc) (.slice (some ⟨gm, 0, none⟩) k4 yd) ms cs hs ks) := hid (by rw [<- eW4]; exact ⟨_, _, _, _, (by simp only [List.length_set]; exact hL), HPt.out⟩)
            clear HPt hL hS oo hv1 hv2 hv3 hv4 ezz
            go_wp2_with fail
            go_roundw
            case rel => exact ⟨i + 1, by omega, by go_num, HP4⟩
            case measure => first | (simp [intOf]; done) | (simp [intOf]; omega)
          have hge : ¬ (i : Int) < (k4 : Int) := by omega
          have HI1 := HI
          obtain ⟨ms, cs, hs, ks, hL, hS⟩ := HI1.out
          obtain ⟨c0, c1, c2, c3, c4, c5, cf⟩ := hS.wb.cells
          have HS0 := hid hS
          have HL := hid hL
          clear HI HI1 hL hS hi hin
          go_wp2_with (first
            | (at_builtin
               refine wpList_appH KM _ rfl _ _ 22 rfl Tryz.underlying22 104 infoM B wr.heap.size _ ms (⟨0, 0, 0, 0, 0, 0, 0, 0, 0, false, 0, -50, 0⟩ : Mv) rfl rfl (HS0.out.oa.still (Still.alloc wr _)) (heap_alloc_new wr _) (by have := HBd.out; have := HL.out; omega) (by have := HBd.out; have := HL.out; omega) (by have := HS0.out.f.size; have := HBw.out; simp; omega) ?_
               intro v' v1 ho hf
               obtain ⟨g1, e1, rfl, _, _⟩ := ho.head (by simp)
               have hA := HS0.out.app1 (fun k hk => HD.out.1 k hk) ho hf
               rw [show (ms ++ [(⟨0, 0, 0, 0, 0, 0, 0, 0, 0, false, 0, -50, 0⟩ : Mv)]).length = k1 + 1 by have := HL.out; simp; omega] at hA ⊢
               have w1 : Wdb v1 w.heap.size fr nx (.slice xa k1 ya) (.slice xb k2 yb) (.slice xc k3 yc) (.slice xd k4 yd) := (HS0.out.oa.still (Still.alloc wr _)).frT (ts := [55]) hf (Nat.le_refl _) (by simp) |>.kept (HS0.out.wb.still (Still.alloc wr _)) (by decide)
               obtain ⟨u1, eu1⟩ : ∃ X, v1.setCell ⟨w.heap.size, 1, none⟩ (.slice (some ⟨g1, 0, none⟩) (k1 + 1) e1) = X := ⟨_, rfl⟩
               rw [eu1] at hA
               have HS1 := hid hA
               have p1 := cell_of_row _ _ 1 _ _ _ w1
               have q1 := (Wdb.cells w1).2.2.2.2.2.2 1
               clear c0 c1 c2 c3 c4 c5 cf
               obtain ⟨c0, c1, c2, c3, c4, c5, cf⟩ := hA.wb.cells
               clear ho hf hA w1)
            | (at_builtin
               refine wpList_appH KC _ rfl _ _ 23 rfl Tryz.underlying23 32 infoC B u1.heap.size _ cs (⟨0, -50, 0, 0⟩ : Scr) rfl rfl (HS1.out.ob.still (Still.alloc u1 _)) (heap_alloc_new u1 _) (by have := HBd.out; have := HL.out; omega) (by have := HBd.out; have := HL.out; omega) (by have := HS1.out.f.size; have := HBw.out; simp; omega) ?_
               intro v' v2 ho hf
               obtain ⟨g2, e2, rfl, _, _⟩ := ho.head (by simp)
               have hA := HS1.out.app2 (fun k hk => HD.out.2.1 k hk) ho hf
               rw [show (cs ++ [(⟨0, -50, 0, 0⟩ : Scr)]).length = k2 + 1 by have := HL.out; simp; omega] at hA ⊢
               have w2 : Wdb v2 w.heap.size fr nx (.slice (some ⟨g1, 0, none⟩) (k1 + 1) e1) (.slice xb k2 yb) (.slice xc k3 yc) (.slice xd k4 yd) := (HS1.out.ob.still (Still.alloc u1 _)).frT (ts := [57]) hf (Nat.le_refl _) (by simp) |>.kept (HS1.out.wb.still (Still.alloc u1 _)) (by decide)
               obtain ⟨u2, eu2⟩ : ∃ X, v2.setCell ⟨w.heap.size, 2, none⟩ (.slice (some ⟨g2, 0, none⟩) (k2 + 1) e2) = X := ⟨_, rfl⟩
               rw [eu2] at hA
               have HS2 := hid hA
               have p2 := cell_of_row _ _ 2 _ _ _ w2
               have q2 := (Wdb.cells w2).2.2.2.2.2.2 2
               clear c0 c1 c2 c3 c4 c5 cf
               obtain ⟨c0, c1, c2, c3, c4, c5, cf⟩ := hA.wb.cells
               clear ho hf hA w2)
            | (at_builtin
               refine wpList_appH KS _ rfl _ _ 24 rfl Tryz.underlying24 64 infoS B u2.heap.size _ hs (⟨-50, 0, 0, 0, 0, 0, 0, 0⟩ : Sh) rfl rfl (HS2.out.oc.still (Still.alloc u2 _)) (heap_alloc_new u2 _) (by have := HBd.out; have := HL.out; omega) (by have := HBd.out; have := HL.out; omega) (by have := HS2.out.f.size; have := HBw.out; simp; omega) ?_
               intro v' v3 ho hf
               obtain ⟨g3, e3, rfl, _, _⟩ := ho.head (by simp)
               have hA := HS2.out.app3 (fun k hk => HD.out.2.2.1 k hk) ho hf
               rw [show (hs ++ [(⟨-50, 0, 0, 0, 0, 0, 0, 0⟩ : Sh)]).length = k3 + 1 by have := HL.out; simp; omega] at hA ⊢
               have w3 : Wdb v3 w.heap.size fr nx (.slice (some ⟨g1, 0, none⟩) (k1 + 1) e1) (.slice (some ⟨g2, 0, none⟩) (k2 + 1) e2) (.slice xc k3 yc) (.slice xd k4 yd) := (HS2.out.oc.still (Still.alloc u2 _)).frT (ts := [59]) hf (Nat.le_refl _) (by simp) |>.kept (HS2.out.wb.still (Still.alloc u2 _)) (by decide)
               obtain ⟨u3, eu3⟩ : ∃ X, v3.setCell ⟨w.heap.size, 3, none⟩ (.slice (some ⟨g3, 0, none⟩) (k3 + 1) e3) = X := ⟨_, rfl⟩
               rw [eu3] at hA
               have HS3 := hid hA
               have p3 := cell_of_row _ _ 3 _ _ _ w3
               have q3 := (Wdb.cells w3).2.2.2.2.2.2 3
               clear c0 c1 c2 c3 c4 c5 cf
               obtain ⟨c0, c1, c2, c3, c4, c5, cf⟩ := hA.wb.cells
               clear ho hf hA w3)
            | (at_builtin
               refine wpList_appH KQ _ rfl _ _ 25 rfl Tryz.underlying25 24 infoQ B u3.heap.size _ ks (⟨-50, 0, 0⟩ : Pk) rfl rfl (HS3.out.od.still (Still.alloc u3 _)) (heap_alloc_new u3 _) (by have := HBd.out; have := HL.out; omega) (by have := HBd.out; have := HL.out; omega) (by have := HS3.out.f.size; have := HBw.out; simp; omega) ?_
               intro v' v4 ho hf
               obtain ⟨g4, e4, rfl, _, _⟩ := ho.head (by simp)
               have hA := HS3.out.app4 (fun k hk => HD.out.2.2.2 k hk) ho hf
               rw [show (ks ++ [(⟨-50, 0, 0⟩ : Pk)]).length = k4 + 1 by have := HL.out; simp; omega] at hA ⊢
               have w4 : Wdb v4 w.heap.size fr nx (.slice (some ⟨g1, 0, none⟩) (k1 + 1) e1) (.slice (some ⟨g2, 0, none⟩) (k2 + 1) e2) (.slice (some ⟨g3, 0, none⟩) (k3 + 1) e3) (.slice xd k4 yd) := (HS3.out.od.still (Still.alloc u3 _)).frT (ts := [61]) hf (Nat.le_refl _) (by simp) |>.kept (HS3.out.wb.still (Still.alloc u3 _)) (by decide)
               obtain ⟨u4, eu4⟩ : ∃ X, v4.setCell ⟨w.heap.size, 4, none⟩ (.slice (some ⟨g4, 0, none⟩) (k4 + 1) e4) = X := ⟨_, rfl⟩
               rw [eu4] at hA
               have HS4 := hid hA
               have p4 := cell_of_row _ _ 4 _ _ _ w4
               have q4 := (Wdb.cells w4).2.2.2.2.2.2 4
               clear c0 c1 c2 c3 c4 c5 cf
               obtain ⟨c0, c1, c2, c3, c4, c5, cf⟩ := hA.wb.cells
               clear ho hf hA w4))
          go_ret
          exact ⟨by unfold spN; congr 2, HS4.out.f⟩
end Go.Proofs.YtkgbmefaphhcnaaGreatDoor
namespace Go.Proofs.YtkgbmefaphhcnaaGreatDoor
open Go.RowKit
open Pu Gp Ap Vp Np Za Ka Ja Ea Ha
set_option maxRecDepth 100000
set_option maxHeartbeats 8000000 in
theorem lstill_any (W : Wd) (fr nx : Int) (g0 c0 g1 c1 g2 c2 g3 c3 : Nat) (xa xb xc xd : Option Addr) (k1 k2 k3 k4 ya yb yc yd : Nat) (w : World) (B : Nat) (o0 : OwG KM 55 w B (.slice (some ⟨g0, 0, none⟩) (k1 + 1) c0) (W.ms ++ [m7])) (o1 : OwG KC 57 w B (.slice (some ⟨g1, 0, none⟩) (k2 + 1) c1) (W.cs ++ [c7])) (o2 : OwG KS 59 w B (.slice (some ⟨g2, 0, none⟩) (k3 + 1) c2) (W.hs ++ [s7])) (o3 : OwG KQ 61 w B (.slice (some ⟨g3, 0, none⟩) (k4 + 1) c3) (W.ks ++ [p7])) (hl : RdW w (.agg (wdcs fr nx (.slice (some ⟨g0, 0, none⟩) k1 c0) (.slice (some ⟨g1, 0, none⟩) k2 c1) (.slice (some ⟨g2, 0, none⟩) k3 c2) (.slice (some ⟨g3, 0, none⟩) k4 c3))) W) (hv : RdW w (.agg (wdcs fr nx (.slice xa k1 ya) (.slice xb k2 yb) (.slice xc k3 yc) (.slice xd k4 yd))) W) (he : W.ms.length = k1 /\ W.cs.length = k2 /\ W.hs.length = k3 /\ W.ks.length = k4) (hb : k1 <= 281474976710656 /\ k2 <= 281474976710656 /\ k3 <= 281474976710656 /\ k4 <= 281474976710656) :
  Calls Tryz.prog 11 #[.agg (wdcs fr nx (.slice (some ⟨g0, 0, none⟩) k1 c0) (.slice (some ⟨g1, 0, none⟩) k2 c1) (.slice (some ⟨g2, 0, none⟩) k3 c2) (.slice (some ⟨g3, 0, none⟩) k4 c3)), .agg (wdcs fr nx (.slice xa k1 ya) (.slice xb k2 yb) (.slice xc k3 yc) (.slice xd k4 yd))] w fun e w' => e = .returned (.bool true) /\ Still w w' := by
 have EL := hid he
 have t0 : ∀ W' : World, (Instr.slice 22 (.slice (some ⟨g0, 0, none⟩) k1 c0) none (some (.int .i64 ((k1 : Int) + 1))) none).run Tryz.prog W' = .ok (.slice (some ⟨g0, 0, none⟩) (k1 + 1) c0) W' := fun W' => by have h := run_uptoG (P := Tryz.prog) Tryz.underlying22 (e := 55) ⟨_, rfl⟩ W' (some ⟨g0, 0, none⟩) k1 c0 ((k1 : Int) + 1) (by omega) (by have hq := (owG_len o0).2; have := EL.out; simp only [List.length_append, List.length_cons, List.length_nil] at hq; omega); rw [show ((k1 : Int) + 1).toNat = k1 + 1 by omega] at h; exact h
 have t1 : ∀ W' : World, (Instr.slice 23 (.slice (some ⟨g1, 0, none⟩) k2 c1) none (some (.int .i64 ((k2 : Int) + 1))) none).run Tryz.prog W' = .ok (.slice (some ⟨g1, 0, none⟩) (k2 + 1) c1) W' := fun W' => by have h := run_uptoG (P := Tryz.prog) Tryz.underlying23 (e := 57) ⟨_, rfl⟩ W' (some ⟨g1, 0, none⟩) k2 c1 ((k2 : Int) + 1) (by omega) (by have hq := (owG_len o1).2; have := EL.out; simp only [List.length_append, List.length_cons, List.length_nil] at hq; omega); rw [show ((k2 : Int) + 1).toNat = k2 + 1 by omega] at h; exact h
 have t2 : ∀ W' : World, (Instr.slice 24 (.slice (some ⟨g2, 0, none⟩) k3 c2) none (some (.int .i64 ((k3 : Int) + 1))) none).run Tryz.prog W' = .ok (.slice (some ⟨g2, 0, none⟩) (k3 + 1) c2) W' := fun W' => by have h := run_uptoG (P := Tryz.prog) Tryz.underlying24 (e := 59) ⟨_, rfl⟩ W' (some ⟨g2, 0, none⟩) k3 c2 ((k3 : Int) + 1) (by omega) (by have hq := (owG_len o2).2; have := EL.out; simp only [List.length_append, List.length_cons, List.length_nil] at hq; omega); rw [show ((k3 : Int) + 1).toNat = k3 + 1 by omega] at h; exact h
 have t3 : ∀ W' : World, (Instr.slice 25 (.slice (some ⟨g3, 0, none⟩) k4 c3) none (some (.int .i64 ((k4 : Int) + 1))) none).run Tryz.prog W' = .ok (.slice (some ⟨g3, 0, none⟩) (k4 + 1) c3) W' := fun W' => by have h := run_uptoG (P := Tryz.prog) Tryz.underlying25 (e := 61) ⟨_, rfl⟩ W' (some ⟨g3, 0, none⟩) k4 c3 ((k4 : Int) + 1) (by omega) (by have hq := (owG_len o3).2; have := EL.out; simp only [List.length_append, List.length_cons, List.length_nil] at hq; omega); rw [show ((k4 : Int) + 1).toNat = k4 + 1 by omega] at h; exact h
 have y0 : w.cell? ⟨g0, k1 * 13 + 11, none⟩ = some (.int .i64 (-7)) := by have h := o0.get (i := k1) (by have := EL.out; simp; omega) 11 (.int .i64 (-7)) (by rw [show (W.ms ++ [m7]).getD k1 KM.d = m7 by rw [show k1 = W.ms.length by have := EL.out; omega]; simp [List.getD_eq_getElem?_getD]]; rfl); exact h
 have y1 : w.cell? ⟨g1, k2 * 4 + 1, none⟩ = some (.int .i64 (-7)) := by have h := o1.get (i := k2) (by have := EL.out; simp; omega) 1 (.int .i64 (-7)) (by rw [show (W.cs ++ [c7]).getD k2 KC.d = c7 by rw [show k2 = W.cs.length by have := EL.out; omega]; simp [List.getD_eq_getElem?_getD]]; rfl); exact h
 have y2 : w.cell? ⟨g2, k3 * 8, none⟩ = some (.int .i64 (-7)) := by have h := o2.get (i := k3) (by have := EL.out; simp; omega) 0 (.int .i64 (-7)) (by rw [show (W.hs ++ [s7]).getD k3 KS.d = s7 by rw [show k3 = W.hs.length by have := EL.out; omega]; simp [List.getD_eq_getElem?_getD]]; rfl); exact h
 have y3 : w.cell? ⟨g3, k4 * 3, none⟩ = some (.int .i64 (-7)) := by have h := o3.get (i := k4) (by have := EL.out; simp; omega) 0 (.int .i64 (-7)) (by rw [show (W.ks ++ [p7]).getD k4 KQ.d = p7 by rw [show k4 = W.ks.length by have := EL.out; omega]; simp [List.getD_eq_getElem?_getD]]; rfl); exact h
 have HYc := hid (And.intro y0 (And.intro y1 (And.intro y2 y3)))
 have A0 := Still.alloc w (.cells (wdcs fr nx (.slice (some ⟨g0, 0, none⟩) k1 c0) (.slice (some ⟨g1, 0, none⟩) k2 c1) (.slice (some ⟨g2, 0, none⟩) k3 c2) (.slice (some ⟨g3, 0, none⟩) k4 c3)) 27)
 have A1 := Still.alloc (w.alloc (.cells (wdcs fr nx (.slice (some ⟨g0, 0, none⟩) k1 c0) (.slice (some ⟨g1, 0, none⟩) k2 c1) (.slice (some ⟨g2, 0, none⟩) k3 c2) (.slice (some ⟨g3, 0, none⟩) k4 c3)) 27)) (.cells (wdcs fr nx (.slice xa k1 ya) (.slice xb k2 yb) (.slice xc k3 yc) (.slice xd k4 yd)) 27)
 have z0 := newWd_wb (w.alloc (.cells (wdcs fr nx (.slice (some ⟨g0, 0, none⟩) k1 c0) (.slice (some ⟨g1, 0, none⟩) k2 c1) (.slice (some ⟨g2, 0, none⟩) k3 c2) (.slice (some ⟨g3, 0, none⟩) k4 c3)) 27)) fr nx (.slice xa k1 ya) (.slice xb k2 yb) (.slice xc k3 yc) (.slice xd k4 yd)
 rw [size_alloc] at z0
 have HS0 : Hid (Still w ((w.alloc (.cells (wdcs fr nx (.slice (some ⟨g0, 0, none⟩) k1 c0) (.slice (some ⟨g1, 0, none⟩) k2 c1) (.slice (some ⟨g2, 0, none⟩) k3 c2) (.slice (some ⟨g3, 0, none⟩) k4 c3)) 27)).alloc (.cells (wdcs fr nx (.slice xa k1 ya) (.slice xb k2 yb) (.slice xc k3 yc) (.slice xd k4 yd)) 27))) := hid (A0.trans A1)
 have HW0 : Hid (Wdb ((w.alloc (.cells (wdcs fr nx (.slice (some ⟨g0, 0, none⟩) k1 c0) (.slice (some ⟨g1, 0, none⟩) k2 c1) (.slice (some ⟨g2, 0, none⟩) k3 c2) (.slice (some ⟨g3, 0, none⟩) k4 c3)) 27)).alloc (.cells (wdcs fr nx (.slice xa k1 ya) (.slice xb k2 yb) (.slice xc k3 yc) (.slice xd k4 yd)) 27)) w.heap.size fr nx (.slice (some ⟨g0, 0, none⟩) k1 c0) (.slice (some ⟨g1, 0, none⟩) k2 c1) (.slice (some ⟨g2, 0, none⟩) k3 c2) (.slice (some ⟨g3, 0, none⟩) k4 c3)) := hid ((newWd_wb w fr nx (.slice (some ⟨g0, 0, none⟩) k1 c0) (.slice (some ⟨g1, 0, none⟩) k2 c1) (.slice (some ⟨g2, 0, none⟩) k3 c2) (.slice (some ⟨g3, 0, none⟩) k4 c3)).still A1)
 have HZ0 : Hid (Wdb ((w.alloc (.cells (wdcs fr nx (.slice (some ⟨g0, 0, none⟩) k1 c0) (.slice (some ⟨g1, 0, none⟩) k2 c1) (.slice (some ⟨g2, 0, none⟩) k3 c2) (.slice (some ⟨g3, 0, none⟩) k4 c3)) 27)).alloc (.cells (wdcs fr nx (.slice xa k1 ya) (.slice xb k2 yb) (.slice xc k3 yc) (.slice xd k4 yd)) 27)) (w.heap.size + 1) fr nx (.slice xa k1 ya) (.slice xb k2 yb) (.slice xc k3 yc) (.slice xd k4 yd)) := hid z0
 have HL := hid hl
 have HV := hid hv
 have HO := hid (And.intro o0 (And.intro o1 (And.intro o2 o3)))
 obtain ⟨hb1, hb2, hb3, hb4⟩ := hb
 clear o0 o1 o2 o3 hl hv he A0 A1 z0 y0 y1 y2 y3
 obtain ⟨W0, eW0⟩ : ∃ X, ((w.alloc (.cells (wdcs fr nx (.slice (some ⟨g0, 0, none⟩) k1 c0) (.slice (some ⟨g1, 0, none⟩) k2 c1) (.slice (some ⟨g2, 0, none⟩) k3 c2) (.slice (some ⟨g3, 0, none⟩) k4 c3)) 27)).alloc (.cells (wdcs fr nx (.slice xa k1 ya) (.slice xb k2 yb) (.slice xc k3 yc) (.slice xd k4 yd)) 27)) = X := ⟨_, rfl⟩
 rw [eW0] at HS0 HW0 HZ0
 obtain ⟨d0, d1, d2, d3, d4, d5, df⟩ := HW0.out.cells
 obtain ⟨f0, f1, f2, f3, f4, f5, ff⟩ := HZ0.out.cells
 go_enter Tryz.func11, Tryz.ntmps11
 go_wp2_with fail
 refine (rsame_any W _ _ W0 (HL.out.still HS0.out) (HV.out.still HS0.out)).mono ?_
 rintro e w2 ⟨rfl, h2⟩
 have HS2 := hid (HS0.out.trans h2)
 have HW2 := hid (HW0.out.still h2)
 have HZ2 := hid (HZ0.out.still h2)
 have r0 := Cl.cell HYc.out.1 ⟨w2, HS2.out⟩
 have r1 := Cl.cell HYc.out.2.1 ⟨w2, HS2.out⟩
 have r2 := Cl.cell HYc.out.2.2.1 ⟨w2, HS2.out⟩
 have r3 := Cl.cell HYc.out.2.2.2 ⟨w2, HS2.out⟩
 clear h2 eW0 d0 d1 d2 d3 d4 d5 df f0 f1 f2 f3 f4 f5 ff HS0 HW0 HZ0
 obtain ⟨d0, d1, d2, d3, d4, d5, df⟩ := HW2.out.cells
 obtain ⟨f0, f1, f2, f3, f4, f5, ff⟩ := HZ2.out.cells
 go_wp2_with fail
 go_ret
 exact ⟨rfl, HS2.out⟩
end Go.Proofs.YtkgbmefaphhcnaaGreatDoor
