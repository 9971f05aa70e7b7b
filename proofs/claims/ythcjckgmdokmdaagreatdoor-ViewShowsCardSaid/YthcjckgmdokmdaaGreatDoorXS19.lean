/- Parts of the proof, laid end to end. -/
import Derived.Test.YthcjckgmdokmdaaGreatDoorXS17
import Derived.Test.YthcjckgmdokmdaaGreatDoorXS18
import Derived.Deep.DeepCutAuto
namespace Go.Proofs.YthcjckgmdokmdaaGreatDoor
open Go.RowKit
open Pu Gp Ap Vp Np Za Ka Ja Ea Ha Hg Hi
set_option maxRecDepth 100000
def OpenR (w w' : World) (p q C R : Int) (s : ByteArray) (lg : Value) (st sp : List (Int × Int)) (e : Ending) : Prop :=
 Still w w' /\ (p <= (st.length : Int) -> ∃ ao ac bo bc, OwG KT 54 w' w.heap.size (.slice ao st.length ac) st /\ OwG KT 54 w' w.heap.size (.slice bo sp.length bc) sp /\ e = .returned (.tuple #[.agg #[.int .i64 p, .int .u64 q, .int .i64 C, .int .i64 R, .string s, lg, .slice ao st.length ac, .slice bo sp.length bc], .int .i64 0])) /\
  (¬ p <= (st.length : Int) -> e = .returned (.tuple #[.agg #[.int .i64 0, .int .u64 0, .int .i64 0, .int .i64 0, .string ByteArray.empty, .slice none 0 0, .slice none 0 0, .slice none 0 0], .int .i64 130]))
theorem OwG.set8 {α : Type} {K : Kd α} {e t : TypeId} {w : World} {B g : Nat} {v : Value} {L : List α} (h : OwG K e w B v L) (hg : Tyk w g t) (ht : e ≠ t) (v0 v1 v2 v3 v4 v5 v6 v7 : Value) : OwG K e ((((((((w.setCell ⟨g, 0, none⟩ v0).setCell ⟨g, 1, none⟩ v1).setCell ⟨g, 2, none⟩ v2).setCell ⟨g, 3, none⟩ v3).setCell ⟨g, 4, none⟩ v4).setCell ⟨g, 5, none⟩ v5).setCell ⟨g, 6, none⟩ v6).setCell ⟨g, 7, none⟩ v7) B v L :=
 ((h.set6 hg ht v0 v1 v2 v3 v4 v5).setO ((((((hg.set v0).set v1).set v2).set v3).set v4).set v5) ht v6).setO (((((((hg.set v0).set v1).set v2).set v3).set v4).set v5).set v6) ht v7
set_option maxHeartbeats 8000000 in
theorem open_in (p q C R : Int) (s : ByteArray) (st sp : List (Int × Int)) (l : List Int) (lo : Option Addr) (n cap : Nat) (w : World) (Q : Q13 w ⟨p, q, C, R, s, .slice lo n cap⟩ 0 st sp) (hr : RdI w lo n cap l) (h0 : 2 <= p /\ p <= 6) (hl : Lags l) :
    Calls Tryz.prog 40 #[.agg #[.int .i64 p, .int .u64 q, .int .i64 C, .int .i64 R, .string s, .slice lo n cap]] w fun e w' => OpenR w w' p q C R s (.slice lo n cap) st sp e := by
  have A0 := Still.alloc w (.cells (cfc ⟨p, q, C, R, s, .slice lo n cap⟩) 27)
  have A1 := Still.alloc (w.alloc (.cells (cfc ⟨p, q, C, R, s, .slice lo n cap⟩) 27)) (.cells #[.int .i64 0, .int .u64 0, .int .i64 0, .int .i64 0, .string ByteArray.empty, .slice none 0 0, .slice none 0 0, .slice none 0 0] 101)
  have p0 := (newCf_cb w ⟨p, q, C, R, s, .slice lo n cap⟩).still A1
  have q0 := heap_alloc_new (w.alloc (.cells (cfc ⟨p, q, C, R, s, .slice lo n cap⟩) 27)) (.cells #[.int .i64 0, .int .u64 0, .int .i64 0, .int .i64 0, .string ByteArray.empty, .slice none 0 0, .slice none 0 0, .slice none 0 0] 101)
  rw [size_alloc] at q0
  have HZa := hid q0
  have HSa := hid (A0.trans A1)
  have HPa := hid p0
  have HM := hid (fun u (hu : Still w u) => maylag_any l lo n cap u (hr.still hu))
  have HK := hid (fun u (hu : Still w u) => Q.chk u hu)
  have HQs := hid (fun u (hu : Still w u) => (Q.sts u hu).mono (fun e w' (h : ∃ a, e = .returned a /\ OwG KT 54 w' u.heap.size a st /\ Still u w') => (show ∃ a, e = .returned a /\ OwG KT 54 w' w.heap.size a st /\ Still u w' by obtain ⟨a, h1, h2, h3⟩ := h; exact ⟨a, h1, h2.less hu.size, h3⟩)))
  have HQp := hid (fun u (hu : Still w u) => (Q.sps u hu).mono (fun e w' (h : ∃ a, e = .returned a /\ OwG KT 54 w' u.heap.size a sp /\ Still u w') => (show ∃ a, e = .returned a /\ OwG KT 54 w' w.heap.size a sp /\ Still u w' by obtain ⟨a, h1, h2, h3⟩ := h; exact ⟨a, h1, h2.less hu.size, h3⟩)))
  have HLg := hid hl
  obtain ⟨c0, c1, c2, c3, c4, c5, cf⟩ := HPa.out.cells
  clear Q hr A0 A1 p0 q0 hl
  have HW := hid (fun u => wwithin_any p 2 6 u)
  rw [decide_eq_true h0] at HW
  clear h0
  obtain ⟨n1, en1⟩ : ∃ k, st.length = k := ⟨_, rfl⟩
  obtain ⟨n2, en2⟩ : ∃ k, sp.length = k := ⟨_, rfl⟩
  have HN := hid (And.intro en1 en2)
  clear en1 en2
  go_enter Tryz.func40, Tryz.ntmps40
  go_wp2_with fail
  refine (HW.out _).mono ?_
  rintro e w1 ⟨he, hw⟩
  rw [he, hw]
  clear he hw w1
  go_wp2_with fail
  refine (HM.out _ HSa.out).mono ?_
  rintro e w2 ⟨⟨b2, rfl, hb2⟩, h2⟩
  obtain rfl : b2 = true := hb2.2 HLg.out
  have HS2 := hid (HSa.out.trans h2)
  have HP2 := hid (HPa.out.still h2)
  have HZ2 := hid (h2.kept_still HZa.out)
  clear c0 c1 c2 c3 c4 c5 cf h2 hb2
  obtain ⟨c0, c1, c2, c3, c4, c5, cf⟩ := HP2.out.cells
  go_wp2_with fail
  refine (HK.out _ HS2.out).mono ?_
  rintro e w3 ⟨rfl, h3⟩
  have HS3 := hid (HS2.out.trans h3)
  have HP3 := hid (HP2.out.still h3)
  have HZ3 := hid (h3.kept_still HZ2.out)
  clear c0 c1 c2 c3 c4 c5 cf h3 HP2 HS2 HZ2
  obtain ⟨c0, c1, c2, c3, c4, c5, cf⟩ := HP3.out.cells
  go_upto_region 3 with fail
  have nn : w.heap.size + 1 < w3.heap.size := block_lt HZ3.out
  have HNN := hid nn
  have k1 : w3.heap.size ≠ w.heap.size := by omega
  have k2 : w3.heap.size ≠ w.heap.size + 1 := by omega
  clear nn
  go_cut [4] (fun v4 wx => ∃ g ao ac bo bc, v4 = .pointer (some ⟨g, 0, none⟩) /\ wx.heap[g]? = some (.cells #[.int .i64 p, .int .u64 q, .int .i64 C, .int .i64 R, .string s, .slice lo n cap, .slice ao n1 ac, .slice bo n2 bc] 101 (0, 0)) /\ w3.heap.size <= g /\ OwG KT 54 wx w.heap.size (.slice ao n1 ac) st /\ OwG KT 54 wx w.heap.size (.slice bo n2 bc) sp /\ Still w3 wx)
  case first =>
    go_region_held3 (fun w' => w'.cell? ⟨w.heap.size, 0, none⟩ = some (.int .i64 p) /\ w'.cell? ⟨w.heap.size, 1, none⟩ = some (.int .u64 q) /\ w'.cell? ⟨w.heap.size, 2, none⟩ = some (.int .i64 C) /\ w'.cell? ⟨w.heap.size, 3, none⟩ = some (.int .i64 R) /\ w'.cell? ⟨w.heap.size, 4, none⟩ = some (.string s) /\ w'.cell? ⟨w.heap.size, 5, none⟩ = some (.slice lo n cap)) (go_keep)
      (first
        | (go_at_call 90
           refine (HQs.out _ (by repeat (first | exact HS3.out | refine Fr.drew ?_ | refine Fr.alloc ?_ _))).mono ?_
           rintro e x1 ⟨v1, rfl, o1, g1⟩
           obtain ⟨ao, ac, hv, _⟩ := o1.slice
           rw [HN.out.1] at hv
           subst hv
           have HX1 : Hid (Still w3 x1) := hid (by
             refine Still.trans ?_ g1
             repeat (first | exact Fr.refl _ _ | refine Fr.drew ?_ | refine Fr.alloc ?_ _))
           obtain ⟨d0, d1, d2, d3, d4, d5, df⟩ := (HP3.out.still HX1.out).cells
           have HO1 := hid o1
           have m1 : x1.heap.size ≠ w.heap.size := by have := HNN.out; have := HX1.out.size; omega
           try (have z1 : x1.heap[w3.heap.size]? = some (.cells #[.int .i64 0, .int .u64 0, .int .i64 0, .int .i64 0, .string ByteArray.empty, .slice none 0 0, .slice none 0 0, .slice none 0 0] 101 (0, 0)) := Fr.kept_still (Still.undrew g1) (heap_alloc_new w3 _); obtain ⟨u0, u1, u2, u3, u4, u5, u6, u7, uf⟩ := ses_cells z1)
           clear o1)
        | (go_at_call 43
           refine (HQp.out _ (by repeat (first | exact Still.trans HS3.out HX1.out | refine Fr.drew ?_ | refine Fr.alloc ?_ _))).mono ?_
           rintro e x2 ⟨v2, rfl, o2, g2⟩
           obtain ⟨bo, bc, hv, _⟩ := o2.slice
           rw [HN.out.2] at hv
           subst hv
           have HX2 : Hid (Still x1 x2) := hid (by
             refine Still.trans ?_ g2
             repeat (first | exact Fr.refl _ _ | refine Fr.drew ?_ | refine Fr.alloc ?_ _))
           have HO2 := hid (HO1.out.still HX2.out)
           have HO3 := hid o2
           obtain ⟨y0, y1, y2, y3, y4, y5, yf⟩ := (HP3.out.still (HX1.out.trans HX2.out)).cells
           have m2 : x2.heap.size ≠ w.heap.size := by have := HNN.out; have := HX2.out.size; have := HX1.out.size; omega
           try (have z2 : x2.heap[w3.heap.size]? = some (.cells #[.int .i64 0, .int .u64 0, .int .i64 0, .int .i64 0, .string ByteArray.empty, .slice none 0 0, .slice none 0 0, .slice none 0 0] 101 (0, 0)) := HX2.out.kept_still z1; obtain ⟨v0, v1, v2, v3, v4, v5, v6, v7, vf⟩ := ses_cells z2)
           try (have z3 : x2.heap[x1.heap.size]? = some (.cells #[.int .i64 0, .int .u64 0, .int .i64 0, .int .i64 0, .string ByteArray.empty, .slice none 0 0, .slice none 0 0, .slice none 0 0] 101 (0, 0)) := g2.kept_still (heap_alloc_new x1 _); obtain ⟨t0, t1, t2, t3, t4, t5, t6, t7, tf⟩ := ses_cells z3)
           clear o2))
    · go_wp2_with fail
      go_meet
      have hA := Still.alloc x2 (.cells #[.int .i64 p, .int .u64 q, .int .i64 C, .int .i64 R, .string s, .slice lo n cap, .slice ao n1 ac, .slice bo n2 bc] 101)
      exact ⟨x2.heap.size, ao, ac, bo, bc, rfl, heap_alloc_new x2 _, by have := HX2.out.size; have := HX1.out.size; omega, HO2.out.still hA, HO3.out.still hA, (HX1.out.trans HX2.out).trans hA⟩
    · go_wp2_with fail
      go_meet
      exact ⟨x1.heap.size, ao, ac, bo, bc, rfl, ses_put z3, HX1.out.size, HO2.out.set8 ⟨_, z3⟩ (by decide) _ _ _ _ _ _ _ _, HO3.out.set8 ⟨_, z3⟩ (by decide) _ _ _ _ _ _ _ _, ses_still (HX1.out.trans HX2.out) HX1.out.size _ _ _ _ _ _ _ _⟩
    · go_wp2_with fail
      go_meet
      exact ⟨w3.heap.size, ao, ac, bo, bc, rfl, ses_put z2, Nat.le_refl _, HO2.out.set8 ⟨_, z2⟩ (by decide) _ _ _ _ _ _ _ _, HO3.out.set8 ⟨_, z2⟩ (by decide) _ _ _ _ _ _ _ _, ses_still (HX1.out.trans HX2.out) (Nat.le_refl _) _ _ _ _ _ _ _ _⟩
  case rest =>
    obtain ⟨g, ao, ac, bo, bc, rfl, hg, hge, ho1, ho2, hs⟩ := hcut
    have HG := hid hg
    have HO1 := hid ho1
    have HO2 := hid ho2
    have HS4 := hid (HS3.out.trans hs)
    have HP4 := hid (HP3.out.still hs)
    have HZ4 := hid (hs.kept_still HZ3.out)
    clear c0 c1 c2 c3 c4 c5 cf ho1 ho2 hs HP3 HS3 HZ3
    obtain ⟨c0, c1, c2, c3, c4, c5, cf⟩ := HP4.out.cells
    obtain ⟨d0, d1, d2, d3, d4, d5, d6, d7, df⟩ := ses_cells hg
    obtain ⟨y0, y1, y2, y3, y4, y5, y6, y7, yf⟩ := ses_cells HZ4.out
    clear hg
    by_cases hp : (n1 : Int) < p
    · go_wp2_with fail
      refine bodyPost_ret (ses_res (ses_put HZ4.out) rfl _ _ rfl rfl) rfl ⟨ses_still HS4.out (by omega) _ _ _ _ _ _ _ _, fun h => ?_, fun _ => rfl⟩
      exfalso
      have := HN.out.1
      omega
    · go_wp2_with fail
      refine bodyPost_ret (ses_res (ses_put HZ4.out) rfl _ _ rfl rfl) rfl ⟨ses_still HS4.out (by omega) _ _ _ _ _ _ _ _, fun _ => ?_, fun h => ?_⟩
      · obtain ⟨e1, e2⟩ := HN.out
        subst e1 e2
        exact ⟨ao, ac, bo, bc, HO1.out.set8 ⟨_, HZ4.out⟩ (by decide) _ _ _ _ _ _ _ _, HO2.out.set8 ⟨_, HZ4.out⟩ (by decide) _ _ _ _ _ _ _ _, rfl⟩
      · exfalso
        have := HN.out.1
        omega
end Go.Proofs.YthcjckgmdokmdaaGreatDoor
namespace Go.Proofs.YthcjckgmdokmdaaGreatDoor
open Go.RowKit
open Pu Gp Ap Vp Np Za Ka Ja Ea Ha Hg Hi
set_option maxRecDepth 100000
end Go.Proofs.YthcjckgmdokmdaaGreatDoor
