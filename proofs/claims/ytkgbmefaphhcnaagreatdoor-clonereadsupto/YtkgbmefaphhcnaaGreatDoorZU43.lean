/- Parts of the proof, laid end to end. -/
import Derived.Test.YtkgbmefaphhcnaaGreatDoorZU39
import Derived.Test.YtkgbmefaphhcnaaGreatDoorZU42
import Derived.Test.YtkgbmefaphhcnaaGreatDoorZU02
import Derived.Test.YtkgbmefaphhcnaaGreatDoorZU36
import Derived.Test.YtkgbmefaphhcnaaGreatDoorZU14
namespace Go.Proofs.YtkgbmefaphhcnaaGreatDoor
open Go.RowKit
open Pu Gp Ap Vp Np Za Ka Ja Ea Ha Hg Hi
set_option maxRecDepth 100000
theorem a13_of (F : Cf) (hz : F.s.size <= 281474976710656) (v : Int) (hv : ChkV F.C F.R F.s v) (x : World) : A13 x F v (stV F.C F.s v) where
 chk u _ := (rmapcheck_any F.C F.R F.s hz u).mono fun e w' ⟨v', he, hv', hs⟩ => by
  rw [chkV_one hv' hv] at he
  exact ⟨he, hs⟩
 sts u _ := (rstarts_any F.C F.R F.s hz u).mono fun e w' ⟨a, v', he, hv', ho, hs⟩ => by
  rw [chkV_one hv' hv] at ho
  exact ⟨a, he, ho, hs⟩
def NewI (w wr : World) (b5 : Nat) (F : Cf) (so : Value) (st : List (Int × Int)) (i : Nat) : Prop := ∃ va vc, Wdb wr b5 0 1 va vc (.slice none 0 0) (.slice none 0 0) /\ OwG KM 55 wr w.heap.size va (nwM st i) /\ OwG KC 57 wr w.heap.size vc (nwC i) /\ OwG KT 53 wr w.heap.size so st /\ Cfb wr w.heap.size F /\ Wdb wr (w.heap.size + 1) 0 0 (.slice none 0 0) (.slice none 0 0) (.slice none 0 0) (.slice none 0 0) /\ Still w wr
set_option maxHeartbeats 8000000 in
theorem rnew_yes (N : Nat) (q C R : Int) (s : ByteArray) (lo : Option Addr) (ln lc : Nat) (E : Env) (l : List Int) (w : World) (v : Int) (A : A13 w ⟨(N : Int), q, C, R, s, .slice lo ln lc⟩ v E.st) (hr : RdI w lo ln lc l) (hc : CfgP (N : Int) v E.st.length l) :
    Calls Tryz.prog 22 #[.agg #[.int .i64 (N : Int), .int .u64 q, .int .i64 C, .int .i64 R, .string s, .slice lo ln lc]] w fun e w' => ∃ u, e = .returned (.tuple #[u, .int .i64 0]) /\ OwW w' w.heap.size u (nw0 E N) /\ Still w w' := by
  have A0 := Still.alloc w (.cells #[.int .i64 (N : Int), .int .u64 q, .int .i64 C, .int .i64 R, .string s, .slice lo ln lc] 37)
  have A1 := Still.alloc (w.alloc (.cells #[.int .i64 (N : Int), .int .u64 q, .int .i64 C, .int .i64 R, .string s, .slice lo ln lc] 37)) (.cells (wdcs 0 0 (.slice none 0 0) (.slice none 0 0) (.slice none 0 0) (.slice none 0 0)) 27)
  have p0 := (newCf_cb w ⟨(N : Int), q, C, R, s, .slice lo ln lc⟩).still A1
  have z0 := newWd_wb (w.alloc (.cells #[.int .i64 (N : Int), .int .u64 q, .int .i64 C, .int .i64 R, .string s, .slice lo ln lc] 37)) 0 0 (.slice none 0 0) (.slice none 0 0) (.slice none 0 0) (.slice none 0 0)
  rw [size_alloc] at z0
  have HS0 : Hid (Still w ((w.alloc (.cells #[.int .i64 (N : Int), .int .u64 q, .int .i64 C, .int .i64 R, .string s, .slice lo ln lc] 37)).alloc (.cells (wdcs 0 0 (.slice none 0 0) (.slice none 0 0) (.slice none 0 0) (.slice none 0 0)) 27))) := hid (A0.trans A1)
  have HP0 : Hid (Cfb ((w.alloc (.cells #[.int .i64 (N : Int), .int .u64 q, .int .i64 C, .int .i64 R, .string s, .slice lo ln lc] 37)).alloc (.cells (wdcs 0 0 (.slice none 0 0) (.slice none 0 0) (.slice none 0 0) (.slice none 0 0)) 27)) w.heap.size ⟨(N : Int), q, C, R, s, .slice lo ln lc⟩) := hid p0
  have HZ0 : Hid (Wdb ((w.alloc (.cells #[.int .i64 (N : Int), .int .u64 q, .int .i64 C, .int .i64 R, .string s, .slice lo ln lc] 37)).alloc (.cells (wdcs 0 0 (.slice none 0 0) (.slice none 0 0) (.slice none 0 0) (.slice none 0 0)) 27)) (w.heap.size + 1) 0 0 (.slice none 0 0) (.slice none 0 0) (.slice none 0 0) (.slice none 0 0)) := hid z0
  have HOp := hid (rcfg_any ⟨(N : Int), q, C, R, s, .slice lo ln lc⟩ v E.st l lo ln lc rfl ((w.alloc (.cells #[.int .i64 (N : Int), .int .u64 q, .int .i64 C, .int .i64 R, .string s, .slice lo ln lc] 37)).alloc (.cells (wdcs 0 0 (.slice none 0 0) (.slice none 0 0) (.slice none 0 0) (.slice none 0 0)) 27)) (A.still (A0.trans A1)) (hr.still (A0.trans A1)))
  rw [cfgE_yes (by exact hc)] at HOp
  have HA := hid A
  have HN := hid (show N <= 6 /\ N <= E.st.length by have := hc.2.1; have := hc.2.2.2.1; omega)
  clear A hr hc A0 A1 p0 z0
  obtain ⟨W0, eW0⟩ : ∃ X, ((w.alloc (.cells #[.int .i64 (N : Int), .int .u64 q, .int .i64 C, .int .i64 R, .string s, .slice lo ln lc] 37)).alloc (.cells (wdcs 0 0 (.slice none 0 0) (.slice none 0 0) (.slice none 0 0) (.slice none 0 0)) 27)) = X := ⟨_, rfl⟩
  rw [eW0] at HS0 HP0 HZ0 HOp
  obtain ⟨c0, c1, c2, c3, c4, c5, cf⟩ := HP0.out.cells
  dsimp only at c0 c1 c2 c3 c4 c5
  go_enter Tryz.func22, Tryz.ntmps22
  go_wp2_with fail
  refine HOp.out.mono ?_
  rintro e w1 ⟨rfl, h1⟩
  have A2 := Still.alloc w1 (.cells (wdcs 0 1 (.slice none 0 0) (.slice none 0 0) (.slice none 0 0) (.slice none 0 0)) 27)
  have h2 := h1.trans A2
  have HS2 := hid (HS0.out.trans h2)
  have HZ2 := hid (HZ0.out.still h2)
  have HP2 := hid (HP0.out.still h2)
  have HW2 : Hid (Wdb (w1.alloc (.cells (wdcs 0 1 (.slice none 0 0) (.slice none 0 0) (.slice none 0 0) (.slice none 0 0)) 27)) w1.heap.size 0 1 (.slice none 0 0) (.slice none 0 0) (.slice none 0 0) (.slice none 0 0)) := hid (newWd_wb w1 0 1 (.slice none 0 0) (.slice none 0 0) (.slice none 0 0) (.slice none 0 0))
  have HB := hid (show w.heap.size + 1 < w1.heap.size from Nat.lt_of_lt_of_le (block_lt HZ0.out) h1.size)
  obtain ⟨W2, eW2⟩ : ∃ X, w1.alloc (.cells (wdcs 0 1 (.slice none 0 0) (.slice none 0 0) (.slice none 0 0) (.slice none 0 0)) 27) = X := ⟨_, rfl⟩
  rw [eW2] at HS2 HZ2 HP2 HW2
  obtain ⟨b5, eb5⟩ : ∃ k, w1.heap.size = k := ⟨_, rfl⟩
  rw [eb5] at HW2 HB
  clear eW0 HOp c0 c1 c2 c3 c4 c5 cf h1 h2 A2 HS0 HP0 HZ0
  obtain ⟨c0, c1, c2, c3, c4, c5, cf⟩ := HP2.out.cells
  dsimp only at c0 c1 c2 c3 c4 c5
  go_wp2_with fail
  refine (HA.out.sts W2 HS2.out).mono ?_
  rintro e w3 ⟨vs, rfl, ho3, h3⟩
  obtain ⟨so, sc, rfl, _⟩ := ho3.slice
  have HT3 := hid (ho3.less HS2.out.size)
  have HS3 := hid (HS2.out.trans h3)
  have HZ3 := hid (HZ2.out.still h3)
  have HP3 := hid (HP2.out.still h3)
  have HW3 := hid (HW2.out.still h3)
  obtain ⟨sn, esn⟩ : ∃ k, E.st.length = k := ⟨_, rfl⟩
  rw [esn] at HT3 ⊢
  have HSn := hid esn
  clear eW2 eb5 ho3 h3 c0 c1 c2 c3 c4 c5 cf HS2 HZ2 HP2 HW2 esn HA
  go_wp2_with fail
  go_loopw [7] (fun u wr => ∃ i : Nat, i <= N /\ u = .int .i64 (i : Int) /\ NewI w wr b5 ⟨(N : Int), q, C, R, s, .slice lo ln lc⟩ (.slice so sn sc) E.st i) (fun u _ => N - (intOf u).toNat)
  case atStart => exact ⟨0, by omega, rfl, .slice none 0 0, .slice none 0 0, HW3.out, OwG.nil _ _, OwG.nil _ _, HT3.out, HP3.out, HZ3.out, HS3.out⟩
  case round =>
    clear HT3 HS3 HZ3 HP3 HW3
    obtain ⟨i, hi, rfl, va, vc, hw, ho, hcs, hto, hp, hz, hs⟩ := hrel
    obtain ⟨c0, c1, c2, c3, c4, c5, cf⟩ := hp.cells
    dsimp only at c0 c1 c2 c3 c4 c5
    obtain ⟨ao, cap, rfl, _⟩ := ho.slice
    obtain ⟨bo, bcap, rfl, _⟩ := hcs.slice
    rw [nwM_len] at ho hw
    rw [show (nwC i).length = i by simp [nwC]] at hcs hw
    have HW := hid hw
    have HO := hid ho
    have HC := hid hcs
    have HT := hid hto
    have HP := hid hp
    have HZ := hid hz
    have HS := hid hs
    by_cases hin : i < N
    · have hlt : (i : Int) < (N : Int) := by omega
      obtain ⟨gt, cpt, hv, hv1, hv2⟩ := hto.head (by have := HN.out; omega)
      simp only [Value.slice.injEq] at hv
      obtain ⟨rfl, hv3, hv4⟩ := hv
      have hsl : (i : Int) < (sn : Int) := by have := HN.out; have := HSn.out; omega
      obtain ⟨n0, n1, nf⟩ := owT hto (i := i) (by have := HN.out; omega)
      obtain ⟨x, ex⟩ : ∃ x, pp E.st i = x := ⟨_, rfl⟩
      obtain ⟨y0, y1⟩ := x
      have EX := hid ex
      rw [ex] at n0 n1
      dsimp only at n0 n1
      have hi6 : i < 6 := by have := HN.out; omega
      have hmul : IntKind.i64.wrap (4 * (i : Int)) = 4 * (i : Int) := by rw [IntKind.wrap_i64]; omega
      have HSt := hid (fun u => rstart_any y0 y1 (4 * (i : Int)) u)
      obtain ⟨m, em⟩ : ∃ m, startM y0 y1 (4 * (i : Int)) = m := ⟨_, rfl⟩
      have EM := hid em
      rw [em] at HSt
      clear hw ho hcs hto hp hz hs hv1 hv2 hv3 hv4 ex em c1 c2 c3 c4 c5
      go_wp2_with fail
      refine (HSt.out wr).mono ?_
      rintro e w4 ⟨rfl, h4⟩
      have A5 := Still.alloc w4 (.cells (mcs m) 55)
      have A6 := Still.alloc (w4.alloc (.cells (mcs m) 55)) (.cells (mcs m) 55)
      have hA := (h4.trans A5).trans A6
      have HO4 := hid (HO.out.still hA)
      have HC4 := hid (HC.out.still hA)
      have HT4 := hid (HT.out.still hA)
      have HW4 := hid (HW.out.still hA)
      have HP4 := hid (HP.out.still hA)
      have HZ4 := hid (HZ.out.still hA)
      have HS4 := hid (HS.out.trans hA)
      have mm0 := (show Mb (w4.alloc (.cells (mcs m) 55)) w4.heap.size m from heap_alloc_new w4 _)
      have HM := hid mm0
      have hW4a := (HW.out.still (h4.trans A5))
      have HY4 : Hid (((w4.alloc (.cells (mcs m) 55)).alloc (.cells (mcs m) 55)).heap[w4.heap.size + 1]? = some (.cells (mcs m) 55 (0, 0))) := hid (by
        have h := heap_alloc_new (w4.alloc (.cells (mcs m) 55)) (.cells (mcs m) 55)
        rw [size_alloc] at h
        exact h)
      have HB4 : Hid (w.heap.size <= ((w4.alloc (.cells (mcs m) 55)).alloc (.cells (mcs m) 55)).heap.size) := hid HS4.out.size
      have HL4 : Hid (((nwM E.st i).length + 1) * 104 <= 140737488355328) := hid (by rw [nwM_len]; omega)
      obtain ⟨d0, d1, d2, d3, d4, d5, df⟩ := hW4a.cells
      clear h4 hA A5 A6 HO HC HT HW HP HZ HS hW4a mm0 c0 cf n0 n1 nf
      obtain ⟨e0, e1, e2, e3, e4, e5, e6, e7, e8, e9, e10, e11, e12, ef⟩ := HM.out.cells
      go_wp2_with (first
        | (at_builtin
           refine wpList_appH KM _ rfl _ _ 22 rfl Tryz.underlying22 104 infoM w.heap.size (w4.heap.size + 1) _ (nwM E.st i) m rfl rfl HO4.out HY4.out HL4.out (by have := HL4.out; omega) HB4.out ?_
           intro v' w' ho' hf'
           have hT := HO4.out.frT (ts := [55]) hf' (Nat.le_refl _) (by simp)
           have k1 : Wdb w' b5 0 1 _ _ _ _ := hT.kept HW4.out (by decide)
           obtain ⟨g', cap', rfl, _, _⟩ := ho'.head (by simp)
           have el : (nwM E.st i ++ [m]).length = i + 1 := by simp [nwM_len]
           rw [el] at ho' ⊢
           have ty := k1.ty
           have hb := HB.out
           have HK5 := hid (k1.s1 (.slice (some ⟨g', 0, none⟩) (i + 1) cap'))
           have HO5 := hid (ho'.setO (o := 1) ty (by decide) (.slice (some ⟨g', 0, none⟩) (i + 1) cap'))
           have HC5 := hid ((HC4.out.keepT hT (by decide)).setO (o := 1) ty (by decide) (.slice (some ⟨g', 0, none⟩) (i + 1) cap'))
           have HT5 := hid ((HT4.out.keepT hT (by decide)).setO (o := 1) ty (by decide) (.slice (some ⟨g', 0, none⟩) (i + 1) cap'))
           have HP5 : Hid (Cfb (w'.setCell ⟨b5, 1, none⟩ (.slice (some ⟨g', 0, none⟩) (i + 1) cap')) w.heap.size ⟨(N : Int), q, C, R, s, .slice lo ln lc⟩) := hid ((heap_setCell_other _ _ _ _ (show w.heap.size ≠ b5 by omega)).trans (hT.kept HP4.out (by decide)))
           have HZ5 : Hid (Wdb (w'.setCell ⟨b5, 1, none⟩ (.slice (some ⟨g', 0, none⟩) (i + 1) cap')) (w.heap.size + 1) 0 0 (.slice none 0 0) (.slice none 0 0) (.slice none 0 0) (.slice none 0 0)) := hid (Wdb.other (hT.kept HZ4.out (by decide)) (show w.heap.size + 1 ≠ b5 by omega))
           have HS5 : Hid (Still w (w'.setCell ⟨b5, 1, none⟩ (.slice (some ⟨g', 0, none⟩) (i + 1) cap'))) := hid (Fr.setCell (hT.old HS4.out (Nat.le_refl _)) _ _ (.inr (show w.heap.size <= b5 by omega)))
           obtain ⟨a0, a1, a2, a3, a4, a5, af⟩ := k1.cells
           obtain ⟨W5, eW5⟩ : ∃ X, w'.setCell ⟨b5, 1, none⟩ (.slice (some ⟨g', 0, none⟩) (i + 1) cap') = X := ⟨_, rfl⟩
           rw [eW5] at HK5 HO5 HC5 HT5 HP5 HZ5 HS5
           have HY5 : Hid ((W5.alloc (.cells (ccs zC) 57)).heap[W5.heap.size]? = some (.cells (ccs zC) 57 (0, 0))) := hid (heap_alloc_new W5 _)
           obtain ⟨f0, f1, f2, f3, f4, f5, ff⟩ := HK5.out.cells
           clear ho' hf' hT k1 el ty hb HO4 HC4 HT4 HW4 HP4 HZ4 HS4 HM HY4 HB4 HL4 d0 d1 d2 d3 d4 d5 df e0 e1 e2 e3 e4 e5 e6 e7 e8 e9 e10 e11 e12 ef)
        | (at_builtin
           refine wpList_appH KC _ rfl _ _ 23 rfl Tryz.underlying23 32 infoC w.heap.size W5.heap.size _ (nwC i) zC rfl rfl (HC5.out.still (Still.alloc W5 _)) HY5.out (by rw [show (nwC i).length = i by simp [nwC]]; omega) (by rw [show (nwC i).length = i by simp [nwC]]; omega) (by have := HS5.out.size; simp; omega) ?_
           intro v2 w2 ho2 hf2
           have hT2 := (HC5.out.still (Still.alloc W5 _)).frT (ts := [57]) hf2 (Nat.le_refl _) (by simp)
           have k2 : Wdb w2 b5 0 1 _ _ _ _ := hT2.kept (HK5.out.still (Still.alloc W5 (.cells (ccs zC) 57))) (by decide)
           obtain ⟨g2, cap2, rfl, _, _⟩ := ho2.head (by simp)
           have el : (nwC i ++ [zC]).length = i + 1 := by simp [nwC]
           rw [el] at ho2 ⊢
           have ty := k2.ty
           have hb := HB.out
           have HK6 := hid (k2.s2 (.slice (some ⟨g2, 0, none⟩) (i + 1) cap2))
           have HC6 := hid (ho2.setO (o := 2) ty (by decide) (.slice (some ⟨g2, 0, none⟩) (i + 1) cap2))
           have HO6 := hid (((HO5.out.still (Still.alloc W5 _)).keepT hT2 (by decide)).setO (o := 2) ty (by decide) (.slice (some ⟨g2, 0, none⟩) (i + 1) cap2))
           have HT6 := hid (((HT5.out.still (Still.alloc W5 _)).keepT hT2 (by decide)).setO (o := 2) ty (by decide) (.slice (some ⟨g2, 0, none⟩) (i + 1) cap2))
           have HP6 : Hid (Cfb (w2.setCell ⟨b5, 2, none⟩ (.slice (some ⟨g2, 0, none⟩) (i + 1) cap2)) w.heap.size ⟨(N : Int), q, C, R, s, .slice lo ln lc⟩) := hid ((heap_setCell_other _ _ _ _ (show w.heap.size ≠ b5 by omega)).trans (hT2.kept (HP5.out.still (Still.alloc W5 _)) (by decide)))
           have HZ6 : Hid (Wdb (w2.setCell ⟨b5, 2, none⟩ (.slice (some ⟨g2, 0, none⟩) (i + 1) cap2)) (w.heap.size + 1) 0 0 (.slice none 0 0) (.slice none 0 0) (.slice none 0 0) (.slice none 0 0)) := hid (Wdb.other (hT2.kept (HZ5.out.still (Still.alloc W5 _)) (by decide)) (show w.heap.size + 1 ≠ b5 by omega))
           have HS6 : Hid (Still w (w2.setCell ⟨b5, 2, none⟩ (.slice (some ⟨g2, 0, none⟩) (i + 1) cap2))) := hid (Fr.setCell (hT2.old (HS5.out.trans (Still.alloc W5 _)) (Nat.le_refl _)) _ _ (.inr (show w.heap.size <= b5 by omega)))
           obtain ⟨t0, t1, t2, t3, t4, t5, tf⟩ := k2.cells
           clear ho2 hf2 hT2 k2 el ty hb eW5 HK5 HO5 HC5 HT5 HP5 HZ5 HS5 HY5 a0 a1 a2 a3 a4 a5 af f0 f1 f2 f3 f4 f5 ff))
      go_roundw
      case rel =>
        refine ⟨i + 1, by omega, by go_num, _, _, HK6.out, ?_, ?_, HT6.out, HP6.out, HZ6.out, HS6.out⟩
        · rw [show nwM E.st (i + 1) = nwM E.st i ++ [m] by rw [nwM, EX.out, EM.out]]
          exact HO6.out
        · rw [nwC_next]
          exact HC6.out
      case measure => first | (simp [intOf]; done) | (simp [intOf]; omega)
    · have hge : ¬ (i : Int) < (N : Int) := by omega
      obtain rfl : i = N := by omega
      obtain ⟨d0, d1, d2, d3, d4, d5, df⟩ := HW.out.cells
      obtain ⟨z0, z1, z2, z3, z4, z5, zf⟩ := HZ.out.cells
      clear hw ho hcs hto hp hz hs hin hi
      go_wp2_with fail
      have ty := HZ.out.ty
      refine bodyPost_ret (Wdb.res2 (HZ.out.put 0 1 _ _ _ _) rfl _ _ rfl rfl) rfl ⟨_, rfl, ⟨_, _, _, _, rfl, HO.out.set6 ty (by decide) _ _ _ _ _ _, HC.out.set6 ty (by decide) _ _ _ _ _ _, OwG.nil _ _, OwG.nil _ _⟩, still_set6 HS.out (by omega) _ _ _ _ _ _⟩
end Go.Proofs.YtkgbmefaphhcnaaGreatDoor
namespace Go.Proofs.YtkgbmefaphhcnaaGreatDoor
open Go.RowKit
open Pu Gp Ap Vp Np Za Ka Ja Ea Ha Hg Hi
set_option maxRecDepth 100000
end Go.Proofs.YtkgbmefaphhcnaaGreatDoor
namespace Go.Proofs.YtkgbmefaphhcnaaGreatDoor
open Go.RowKit
open Pu Gp Ap Vp Np Za Ka Ja Ea Ha Hg Hi
set_option maxRecDepth 100000
end Go.Proofs.YtkgbmefaphhcnaaGreatDoor
namespace Go.Proofs.YtkgbmefaphhcnaaGreatDoor
open Go.RowKit
open Pu Gp Ap Vp Np Za Ka Ja Ea Ha Hg Hi
set_option maxRecDepth 100000
theorem all_getD {α : Type} {L : List α} {d : α} {Q : α -> Prop} (h : ∀ j, j < L.length -> Q (L.getD j d)) : ∀ s ∈ L, Q s := fun s hs => by
 obtain ⟨i, hi, rfl⟩ := List.mem_iff_getElem.1 hs
 have := h i hi
 rw [List.getD_eq_getElem?_getD, List.getElem?_eq_getElem hi] at this
 exact this
theorem getD_in {α : Type} {L : List α} {d : α} {j : Nat} (hj : j < L.length) : L.getD j d ∈ L := by
 rw [List.getD_eq_getElem?_getD, List.getElem?_eq_getElem hj]
 exact List.getElem_mem hj
theorem spots_of (C R : Int) (s : ByteArray) (hz : s.size <= 281474976710656) (v : Int) (hv : ChkV C R s v) (u : World) : Calls Tryz.prog 62 #[ar C R s] u fun e w' => ∃ a, e = .returned a /\ OwG KT 53 w' u.heap.size a (spV C s v) /\ Still u w' :=
 (rspots_any C R s hz u).mono fun e w' ⟨a, v', he, hv', ho, hs⟩ => by
  rw [chkV_one hv' hv] at ho
  exact ⟨a, he, ho, hs⟩
set_option maxHeartbeats 4000000 in
theorem rchk13_no (p q C R : Int) (s : ByteArray) (lo : Option Addr) (ln lc : Nat) (st : List (Int × Int)) (l : List Int) (w : World) (v0 : Int) (A : A13 w ⟨p, q, C, R, s, .slice lo ln lc⟩ v0 st) (hr : RdI w lo ln lc l) (hc : ¬ CfgP p v0 st.length l) (W : Wd) (v : Value) (hv : RdW w v W) :
  Calls Tryz.prog 34 #[.agg #[.int .i64 p, .int .u64 q, .int .i64 C, .int .i64 R, .string s, .slice lo ln lc], v] w fun e w' => e = .returned (.int .i64 130) /\ Still w w' := by
 have HV := hid hv
 obtain ⟨a, b, c, d, rfl, ⟨xa, ya, rfl, l1, ha, hra⟩, ⟨xb, yb, rfl, l2, hb, hrb⟩, ⟨xc, yc, rfl, l3, hc0, hrc⟩, ⟨xd, yd, rfl, l4, hd0, hrd⟩⟩ := hv
 have HRc := hid hrc
 have HRd := hid hrd
 clear l1 l2 l3 l4 ha hb hc0 hd0 hra hrb hrc hrd
 obtain ⟨k1, e1⟩ : ∃ n, W.ms.length = n := ⟨_, rfl⟩
 obtain ⟨k2, e2⟩ : ∃ n, W.cs.length = n := ⟨_, rfl⟩
 obtain ⟨k3, e3⟩ : ∃ n, W.hs.length = n := ⟨_, rfl⟩
 obtain ⟨k4, e4⟩ : ∃ n, W.ks.length = n := ⟨_, rfl⟩
 obtain ⟨fr, e5⟩ : ∃ n, W.fr = n := ⟨_, rfl⟩
 obtain ⟨nx, e6⟩ : ∃ n, W.nx = n := ⟨_, rfl⟩
 rw [e1, e2, e3, e4, e5, e6] at HV ⊢
 rw [e3] at HRc
 rw [e4] at HRd
 have EL := hid (And.intro e3 (And.intro e4 (And.intro e5 e6)))
 clear e1 e2 e3 e4 e5 e6
 have A0 := Still.alloc w (.cells #[.int .i64 p, .int .u64 q, .int .i64 C, .int .i64 R, .string s, .slice lo ln lc] 37)
 have A1 := Still.alloc (w.alloc (.cells #[.int .i64 p, .int .u64 q, .int .i64 C, .int .i64 R, .string s, .slice lo ln lc] 37)) (.cells (wdcs fr nx (.slice xa k1 ya) (.slice xb k2 yb) (.slice xc k3 yc) (.slice xd k4 yd)) 27)
 have w0 := newWd_wb (w.alloc (.cells #[.int .i64 p, .int .u64 q, .int .i64 C, .int .i64 R, .string s, .slice lo ln lc] 37)) fr nx (.slice xa k1 ya) (.slice xb k2 yb) (.slice xc k3 yc) (.slice xd k4 yd)
 rw [size_alloc] at w0
 have HS0 : Hid (Still w ((w.alloc (.cells #[.int .i64 p, .int .u64 q, .int .i64 C, .int .i64 R, .string s, .slice lo ln lc] 37)).alloc (.cells (wdcs fr nx (.slice xa k1 ya) (.slice xb k2 yb) (.slice xc k3 yc) (.slice xd k4 yd)) 27))) := hid (A0.trans A1)
 have HP0 : Hid (Cfb ((w.alloc (.cells #[.int .i64 p, .int .u64 q, .int .i64 C, .int .i64 R, .string s, .slice lo ln lc] 37)).alloc (.cells (wdcs fr nx (.slice xa k1 ya) (.slice xb k2 yb) (.slice xc k3 yc) (.slice xd k4 yd)) 27)) w.heap.size ⟨p, q, C, R, s, .slice lo ln lc⟩) := hid ((newCf_cb w ⟨p, q, C, R, s, .slice lo ln lc⟩).still A1)
 have HW0 : Hid (Wdb ((w.alloc (.cells #[.int .i64 p, .int .u64 q, .int .i64 C, .int .i64 R, .string s, .slice lo ln lc] 37)).alloc (.cells (wdcs fr nx (.slice xa k1 ya) (.slice xb k2 yb) (.slice xc k3 yc) (.slice xd k4 yd)) 27)) (w.heap.size + 1) fr nx (.slice xa k1 ya) (.slice xb k2 yb) (.slice xc k3 yc) (.slice xd k4 yd)) := hid w0
 have HOp := hid (rcfg_any ⟨p, q, C, R, s, .slice lo ln lc⟩ v0 st l lo ln lc rfl ((w.alloc (.cells #[.int .i64 p, .int .u64 q, .int .i64 C, .int .i64 R, .string s, .slice lo ln lc] 37)).alloc (.cells (wdcs fr nx (.slice xa k1 ya) (.slice xb k2 yb) (.slice xc k3 yc) (.slice xd k4 yd)) 27)) (A.still (A0.trans A1)) (hr.still (A0.trans A1)))
 rw [cfgE_no (by exact hc)] at HOp
 clear A hr hc
 clear A0 A1 w0
 obtain ⟨W0, eW0⟩ : ∃ X, ((w.alloc (.cells #[.int .i64 p, .int .u64 q, .int .i64 C, .int .i64 R, .string s, .slice lo ln lc] 37)).alloc (.cells (wdcs fr nx (.slice xa k1 ya) (.slice xb k2 yb) (.slice xc k3 yc) (.slice xd k4 yd)) 27)) = X := ⟨_, rfl⟩
 rw [eW0] at HS0 HP0 HW0 HOp
 obtain ⟨c0, c1, c2, c3, c4, c5, cf⟩ := HP0.out.cells
 dsimp only at c0 c1 c2 c3 c4 c5
 go_enter Tryz.func34, Tryz.ntmps34
 go_wp2_with fail
 refine HOp.out.mono ?_
 rintro e w1 ⟨rfl, h1⟩
 have HS1 := hid (HS0.out.trans h1)
 clear h1 c0 c1 c2 c3 c4 c5 cf eW0
 go_wp2_with fail
 go_ret
 exact ⟨rfl, HS1.out⟩
set_option maxHeartbeats 16000000 in
theorem rchk13_yes (N : Nat) (q C R : Int) (s : ByteArray) (lo : Option Addr) (ln lc : Nat) (E : Env) (l : List Int) (w : World) (v0 : Int) (A : A13 w ⟨(N : Int), q, C, R, s, .slice lo ln lc⟩ v0 E.st) (hsp : ∀ u, Calls Tryz.prog 62 #[ar C R s] u fun e w' => ∃ a, e = .returned a /\ OwG KT 53 w' u.heap.size a E.sp /\ Still u w') (hr : RdI w lo ln lc l) (hc : CfgP (N : Int) v0 E.st.length l) (W : Wd) (v : Value) (hv : RdW w v W) :
  Calls Tryz.prog 34 #[.agg #[.int .i64 (N : Int), .int .u64 q, .int .i64 C, .int .i64 R, .string s, .slice lo ln lc], v] w fun e w' => e = .returned (.int .i64 (chkW (N : Int) E W)) /\ Still w w' := by
 have hN6 : N <= 6 := by have := hc.2.1; omega
 have HYs : Hid (Fits (N : Int) E W -> (0 : Int) = chkW (N : Int) E W) := hid (fun h => (chkW_yes h).symm)
 have HNo : Hid (¬ Fits (N : Int) E W -> (131 : Int) = chkW (N : Int) E W) := hid (fun h => (chkW_no h).symm)
 have HFi : Hid (Fits (N : Int) E W ↔ (Seats N W /\ Flo W.hs /\ (∀ s ∈ W.hs, s.ow < (N : Int) /\ s.no < W.nx) /\ MayK W.ks (E.sp.length : Int) /\ (∀ x ∈ W.ks, x.no < W.nx) /\ 1 <= W.nx /\ W.nx <= 1099511627777) /\ 0 <= W.fr /\ W.fr <= 1099511627776) := hid (by
  unfold Fits Ha.Good Ha.Rest
  rw [Int.toNat_natCast])
 obtain ⟨res, eres⟩ : ∃ k, chkW (N : Int) E W = k := ⟨_, rfl⟩
 rw [eres] at HYs HNo ⊢
 clear eres
 have HV := hid hv
 obtain ⟨a, b, c, d, rfl, ⟨xa, ya, rfl, l1, ha, hra⟩, ⟨xb, yb, rfl, l2, hb, hrb⟩, ⟨xc, yc, rfl, l3, hc0, hrc⟩, ⟨xd, yd, rfl, l4, hd0, hrd⟩⟩ := hv
 have HRc := hid hrc
 have HRd := hid hrd
 clear l1 l2 l3 l4 ha hb hc0 hd0 hra hrb hrc hrd
 obtain ⟨k1, e1⟩ : ∃ n, W.ms.length = n := ⟨_, rfl⟩
 obtain ⟨k2, e2⟩ : ∃ n, W.cs.length = n := ⟨_, rfl⟩
 obtain ⟨k3, e3⟩ : ∃ n, W.hs.length = n := ⟨_, rfl⟩
 obtain ⟨k4, e4⟩ : ∃ n, W.ks.length = n := ⟨_, rfl⟩
 obtain ⟨fr, e5⟩ : ∃ n, W.fr = n := ⟨_, rfl⟩
 obtain ⟨nx, e6⟩ : ∃ n, W.nx = n := ⟨_, rfl⟩
 rw [e1, e2, e3, e4, e5, e6] at HV ⊢
 rw [e3] at HRc
 rw [e4] at HRd
 have EL := hid (And.intro e3 (And.intro e4 (And.intro e5 e6)))
 clear e1 e2 e3 e4 e5 e6
 have A0 := Still.alloc w (.cells #[.int .i64 (N : Int), .int .u64 q, .int .i64 C, .int .i64 R, .string s, .slice lo ln lc] 37)
 have A1 := Still.alloc (w.alloc (.cells #[.int .i64 (N : Int), .int .u64 q, .int .i64 C, .int .i64 R, .string s, .slice lo ln lc] 37)) (.cells (wdcs fr nx (.slice xa k1 ya) (.slice xb k2 yb) (.slice xc k3 yc) (.slice xd k4 yd)) 27)
 have w0 := newWd_wb (w.alloc (.cells #[.int .i64 (N : Int), .int .u64 q, .int .i64 C, .int .i64 R, .string s, .slice lo ln lc] 37)) fr nx (.slice xa k1 ya) (.slice xb k2 yb) (.slice xc k3 yc) (.slice xd k4 yd)
 rw [size_alloc] at w0
 have HS0 : Hid (Still w ((w.alloc (.cells #[.int .i64 (N : Int), .int .u64 q, .int .i64 C, .int .i64 R, .string s, .slice lo ln lc] 37)).alloc (.cells (wdcs fr nx (.slice xa k1 ya) (.slice xb k2 yb) (.slice xc k3 yc) (.slice xd k4 yd)) 27))) := hid (A0.trans A1)
 have HP0 : Hid (Cfb ((w.alloc (.cells #[.int .i64 (N : Int), .int .u64 q, .int .i64 C, .int .i64 R, .string s, .slice lo ln lc] 37)).alloc (.cells (wdcs fr nx (.slice xa k1 ya) (.slice xb k2 yb) (.slice xc k3 yc) (.slice xd k4 yd)) 27)) w.heap.size ⟨(N : Int), q, C, R, s, .slice lo ln lc⟩) := hid ((newCf_cb w ⟨(N : Int), q, C, R, s, .slice lo ln lc⟩).still A1)
 have HW0 : Hid (Wdb ((w.alloc (.cells #[.int .i64 (N : Int), .int .u64 q, .int .i64 C, .int .i64 R, .string s, .slice lo ln lc] 37)).alloc (.cells (wdcs fr nx (.slice xa k1 ya) (.slice xb k2 yb) (.slice xc k3 yc) (.slice xd k4 yd)) 27)) (w.heap.size + 1) fr nx (.slice xa k1 ya) (.slice xb k2 yb) (.slice xc k3 yc) (.slice xd k4 yd)) := hid w0
 have HOp := hid (rcfg_any ⟨(N : Int), q, C, R, s, .slice lo ln lc⟩ v0 E.st l lo ln lc rfl ((w.alloc (.cells #[.int .i64 (N : Int), .int .u64 q, .int .i64 C, .int .i64 R, .string s, .slice lo ln lc] 37)).alloc (.cells (wdcs fr nx (.slice xa k1 ya) (.slice xb k2 yb) (.slice xc k3 yc) (.slice xd k4 yd)) 27)) (A.still (A0.trans A1)) (hr.still (A0.trans A1)))
 rw [cfgE_yes (by exact hc)] at HOp
 have HSp := hid hsp
 clear A hr hc hsp
 clear A0 A1 w0
 obtain ⟨W0, eW0⟩ : ∃ X, ((w.alloc (.cells #[.int .i64 (N : Int), .int .u64 q, .int .i64 C, .int .i64 R, .string s, .slice lo ln lc] 37)).alloc (.cells (wdcs fr nx (.slice xa k1 ya) (.slice xb k2 yb) (.slice xc k3 yc) (.slice xd k4 yd)) 27)) = X := ⟨_, rfl⟩
 rw [eW0] at HS0 HP0 HW0 HOp
 obtain ⟨c0, c1, c2, c3, c4, c5, cf⟩ := HP0.out.cells
 dsimp only at c0 c1 c2 c3 c4 c5
 go_enter Tryz.func34, Tryz.ntmps34
 go_wp2_with fail
 refine HOp.out.mono ?_
 rintro e w1 ⟨rfl, h1⟩
 have HS1 := hid (HS0.out.trans h1)
 have HP1 := hid (HP0.out.still h1)
 have HW1 := hid (HW0.out.still h1)
 clear h1 c0 c1 c2 c3 c4 c5 cf eW0 HS0 HP0 HW0 HOp
 obtain ⟨c0, c1, c2, c3, c4, c5, cf⟩ := HP1.out.cells
 dsimp only at c0 c1 c2 c3 c4 c5
 go_wp2_with fail
 refine (HSp.out w1).mono ?_
 rintro e w2 ⟨vs, rfl, ho2, h2⟩
 obtain ⟨so, sc', rfl, _⟩ := ho2.slice
 have HS2 := hid (HS1.out.trans h2)
 have HP2 := hid (HP1.out.still h2)
 have HW2 := hid (HW1.out.still h2)
 obtain ⟨sn, esn⟩ : ∃ k, E.sp.length = k := ⟨_, rfl⟩
 rw [esn] at HFi ⊢
 clear ho2 h2 c0 c1 c2 c3 c4 c5 cf HS1 HP1 HW1 HSp esn
 obtain ⟨c0, c1, c2, c3, c4, c5, cf⟩ := HP2.out.cells
 dsimp only at c0 c1 c2 c3 c4 c5
 obtain ⟨d0, d1, d2, d3, d4, d5, df⟩ := HW2.out.cells
 go_wp2_with fail
 refine (rmovers_any ⟨(N : Int), q, C, R, s, .slice lo ln lc⟩ N rfl hN6 W _ w2 (HV.out.still HS2.out)).mono ?_
 rintro e w3 ⟨r, rfl, ⟨b, rfl, hsq⟩, h3⟩
 have HSq := hid hsq
 have HS3 := hid (HS2.out.trans h3)
 have HP3 := hid (HP2.out.still h3)
 have HW3 := hid (HW2.out.still h3)
 clear hsq h3 c0 c1 c2 c3 c4 c5 cf d0 d1 d2 d3 d4 d5 df HS2 HP2 HW2 HV
 obtain ⟨d0, d1, d2, d3, d4, d5, df⟩ := HW3.out.cells
 go_wp2_with fail
 refine (rflo_any W.hs xc k3 yc w3 (HRc.out.still HS3.out)).mono ?_
 rintro e w4 ⟨rfl, h4⟩
 have HS4 := hid (HS3.out.trans h4)
 have HP4 := hid (HP3.out.still h4)
 have HW4 := hid (HW3.out.still h4)
 obtain ⟨fl, efl⟩ : ∃ b, flo W.hs = b := ⟨_, rfl⟩
 have HFl := hid efl
 rw [efl]
 clear efl h4 d0 d1 d2 d3 d4 d5 df HS3 HP3 HW3
 obtain ⟨d0, d1, d2, d3, d4, d5, df⟩ := HW4.out.cells
 go_wp2_with fail
 refine (rchk10_any W.ks (sn : Int) xd k4 yd w4 (rdK_ofQ (HRd.out.still HS4.out))).mono ?_
 rintro e w5 ⟨rfl, h5⟩
 have HS5 := hid (HS4.out.trans h5)
 have HP5 := hid (HP4.out.still h5)
 have HW5 := hid (HW4.out.still h5)
 obtain ⟨ck, eck⟩ : ∃ b, chkK W.ks (sn : Int) = b := ⟨_, rfl⟩
 have HCk := hid eck
 rw [eck]
 clear eck h5 d0 d1 d2 d3 d4 d5 df HS4 HP4 HW4
 obtain ⟨d0, d1, d2, d3, d4, d5, df⟩ := HW5.out.cells
 have HLs := hid trivial
 cases b with
 | false =>
  have HE := hid (HNo.out (fun h => by have := HSq.out.2 (HFi.out.1 h).1.1; cases this))
  clear HLs
  go_wp2_with fail
  go_ret
  exact ⟨ret_int HE.out, HS5.out⟩
 | true =>
 cases fl with
 | false =>
  have HE := hid (HNo.out (fun h => by have := flo_iff.2 (HFi.out.1 h).1.2.1; rw [HFl.out] at this; cases this))
  clear HLs
  go_wp2_with fail
  go_ret
  exact ⟨ret_int HE.out, HS5.out⟩
 | true =>
 by_cases g1 : ck = 0
 rotate_left
 ·have g1' : (ck != 0) = true := by simpa using g1
  have HE := hid (HNo.out (fun h => g1 (by rw [<- HCk.out]; exact chkK_yes (HFi.out.1 h).1.2.2.2.1)))
  clear HLs
  go_wp2_with fail
  go_ret
  exact ⟨ret_int HE.out, HS5.out⟩
 subst g1
 by_cases g2 : fr < 0
 ·skip
  have HE := hid (HNo.out (fun h => by have h1 := (HFi.out.1 h).2.1; rw [EL.out.2.2.1] at h1; omega))
  clear HLs
  go_wp2_with fail
  go_ret
  exact ⟨ret_int HE.out, HS5.out⟩
 by_cases g3 : fr > 1099511627776
 ·skip
  have HE := hid (HNo.out (fun h => by have h1 := (HFi.out.1 h).2.2; rw [EL.out.2.2.1] at h1; omega))
  clear HLs
  go_wp2_with fail
  go_ret
  exact ⟨ret_int HE.out, HS5.out⟩
 by_cases g4 : nx < 1
 ·skip
  have HE := hid (HNo.out (fun h => by have h1 := (HFi.out.1 h).1.2.2.2.2.2.1; rw [EL.out.2.2.2] at h1; omega))
  clear HLs
  go_wp2_with fail
  go_ret
  exact ⟨ret_int HE.out, HS5.out⟩
 by_cases g5 : nx > 1099511627777
 ·skip
  have HE := hid (HNo.out (fun h => by have h1 := (HFi.out.1 h).1.2.2.2.2.2.2; rw [EL.out.2.2.2] at h1; omega))
  clear HLs
  go_wp2_with fail
  go_ret
  exact ⟨ret_int HE.out, HS5.out⟩
 have HK0 : Hid (Seats N W /\ Flo W.hs /\ MayK W.ks (sn : Int) /\ (1 <= W.nx /\ W.nx <= 1099511627777) /\ 0 <= W.fr /\ W.fr <= 1099511627776) := hid (by
  rw [EL.out.2.2.1, EL.out.2.2.2]
  exact ⟨HSq.out.1 rfl, flo_iff.1 HFl.out, chkK0.1 HCk.out, ⟨by omega, by omega⟩, by omega, by omega⟩)
 go_wp2_with fail
 clear d0 d1 d2 d3 d4 d5 df HLs
 have hk3 : k3 <= 48 := by have h := HK0.out.2.1.1; rw [EL.out.1] at h; exact h
 have hk4 : k4 <= 281474976710656 := by have h := (mayK_pw.1 HK0.out.2.2.1).2.1; rw [EL.out.2.1] at h; omega
 go_loopw [10] (fun u wr => ∃ i : Nat, i <= k3 /\ u = .int .i64 (i : Int) /\ Hid (∀ j, j < i -> (ss W.hs j).ow < (N : Int) /\ (ss W.hs j).no < nx) /\ Still w5 wr) (fun u _ => k3 - (intOf u).toNat)
 case atStart => exact ⟨0, by omega, rfl, hid (fun j h => absurd h (Nat.not_lt_zero j)), Fr.refl _ _⟩
 case round =>
  obtain ⟨i, hi, rfl, HJ, hs⟩ := hrel
  have HS := hid hs
  obtain ⟨c0, c1, c2, c3, c4, c5, cf⟩ := (HP5.out.still hs).cells
  dsimp only at c0 c1 c2 c3 c4 c5
  obtain ⟨d0, d1, d2, d3, d4, d5, df⟩ := (HW5.out.still hs).cells
  by_cases hin : i < k3
  ·have hlt : (i : Int) < (k3 : Int) := by omega
   have hr := HRc.out.still (HS5.out.trans hs)
   obtain ⟨Bk, ok, rfl⟩ := hr.at (by omega)
   obtain ⟨r0, r1, r2, r3, r4, r5, r6, r7⟩ := rdS hr hin
   have HM : Hid (ss W.hs i ∈ W.hs) := hid (getD_in (by rw [EL.out.1]; exact hin))
   have HD : Hid (¬ ((ss W.hs i).ow < (N : Int) /\ (ss W.hs i).no < nx) -> (131 : Int) = res) := hid (fun h => HNo.out (fun hf => h (by
    have := (HFi.out.1 hf).1.2.2.1 _ HM.out
    rw [EL.out.2.2.2] at this
    exact this)))
   have HY : Hid ((ss W.hs i).ow < (N : Int) /\ (ss W.hs i).no < nx -> ∀ j, j < i + 1 -> (ss W.hs j).ow < (N : Int) /\ (ss W.hs j).no < nx) := hid (fun h j hj => by
    by_cases e : j = i
    ·subst e; exact h
    ·exact HJ.out j (by omega))
   obtain ⟨x, ex⟩ : ∃ x, (ss W.hs i).ow = x := ⟨_, rfl⟩
   obtain ⟨y, ey⟩ : ∃ x, (ss W.hs i).no = x := ⟨_, rfl⟩
   rw [ex] at r1 HD HY
   rw [ey] at r0 HD HY
   clear ex ey hr hs
   have q0 := Cl.cell c0
   have q3 := Cl.cell d3
   have q5 := Cl.cell d5
   have qa := Cl.cell r1
   have qb := Cl.cell r0
   have hne := Aft.here wr
   by_cases g6 : x ≥ (N : Int)
   ·have f1 : decide (x ≥ (N : Int)) = true := decide_eq_true g6
    have HX := hid (HD.out (fun h => by have := h.1; omega))
    clear g6
    go_upto_region 13 with fail
    refine region_all (by kernel_rfl) (by kernel_rfl) ?_
    repeat (go_big_quiet_step (fail))
    refine wpQuiet_nil ?_
    intro w6 h6
    have HS6 := hid ((HS5.out.trans HS.out).trans h6)
    clear h6 hne q0 q3 q5 qa qb c0 c1 c2 c3 c4 c5 cf d0 d1 d2 d3 d4 d5 df r0 r1 r2 r3 r4 r5 r6 r7
    go_wp2_with fail
    (first | rw [Exit.noGoto_ret] | skip)
    go_ret
    exact ⟨ret_int HX.out, HS6.out⟩
   have f1 : decide (x ≥ (N : Int)) = false := decide_eq_false g6
   by_cases g7 : y ≥ nx
   ·have f2 : decide (y ≥ nx) = true := decide_eq_true g7
    have HX := hid (HD.out (fun h => by have := h.2; omega))
    clear g6 g7
    go_upto_region 13 with fail
    refine region_all (by kernel_rfl) (by kernel_rfl) ?_
    repeat (go_big_quiet_step (fail))
    refine wpQuiet_nil ?_
    intro w6 h6
    have HS6 := hid ((HS5.out.trans HS.out).trans h6)
    clear h6 hne q0 q3 q5 qa qb c0 c1 c2 c3 c4 c5 cf d0 d1 d2 d3 d4 d5 df r0 r1 r2 r3 r4 r5 r6 r7
    go_wp2_with fail
    (first | rw [Exit.noGoto_ret] | skip)
    go_ret
    exact ⟨ret_int HX.out, HS6.out⟩
   have f2 : decide (y ≥ nx) = false := decide_eq_false g7
   have HX := hid (HY.out ⟨by omega, by omega⟩)
   clear g6 g7
   go_upto_region 13 with fail
   refine region_all (by kernel_rfl) (by kernel_rfl) ?_
   repeat (go_big_quiet_step (fail))
   refine wpQuiet_nil ?_
   intro w6 h6
   have HS6 := hid (HS.out.trans h6)
   clear h6 hne q0 q3 q5 qa qb c0 c1 c2 c3 c4 c5 cf d0 d1 d2 d3 d4 d5 df r0 r1 r2 r3 r4 r5 r6 r7
   go_wp2_with fail
   go_roundw
   case rel => exact ⟨i + 1, by omega, by go_num, HX, HS6.out⟩
   case measure => first | (simp [intOf]; done) | (simp [intOf]; omega)
  have hge : ¬ (i : Int) < (k3 : Int) := by omega
  have HAl : Hid (∀ s ∈ W.hs, s.ow < (N : Int) /\ s.no < nx) := hid (all_getD (fun j hj => HJ.out j (by rw [EL.out.1] at hj; omega)))
  have HS7 := hid (HS5.out.trans hs)
  have HW7 := hid (HW5.out.still hs)
  clear HJ hs hi hin c0 c1 c2 c3 c4 c5 cf
  go_wp2_with fail
  clear d0 d1 d2 d3 d4 d5 df hge
  go_loopw [11] (fun u wx => ∃ i : Nat, i <= k4 /\ u = .int .i64 (i : Int) /\ Hid (∀ j, j < i -> (pk W.ks j).no < nx) /\ Still wr wx) (fun u _ => k4 - (intOf u).toNat)
  case atStart => exact ⟨0, by omega, rfl, hid (fun j h => absurd h (Nat.not_lt_zero j)), Fr.refl _ _⟩
  case round =>
   obtain ⟨i, hi, rfl, HJ, hs⟩ := hrel
   have HS := hid hs
   obtain ⟨d0, d1, d2, d3, d4, d5, df⟩ := (HW7.out.still hs).cells
   by_cases hin : i < k4
   ·have hlt : (i : Int) < (k4 : Int) := by omega
    have hr := HRd.out.still (HS7.out.trans hs)
    obtain ⟨Bk, ok, rfl⟩ := hr.at (by omega)
    obtain ⟨r0, r1, r2⟩ := rdQ hr hin
    have HM : Hid (pk W.ks i ∈ W.ks) := hid (getD_in (by rw [EL.out.2.1]; exact hin))
    have HD : Hid (¬ (pk W.ks i).no < nx -> (131 : Int) = res) := hid (fun h => HNo.out (fun hf => h (by
     have := (HFi.out.1 hf).1.2.2.2.2.1 _ HM.out
     rw [EL.out.2.2.2] at this
     exact this)))
    have HY : Hid ((pk W.ks i).no < nx -> ∀ j, j < i + 1 -> (pk W.ks j).no < nx) := hid (fun h j hj => by
     by_cases e : j = i
     ·subst e; exact h
     ·exact HJ.out j (by omega))
    obtain ⟨y, ey⟩ : ∃ x, (pk W.ks i).no = x := ⟨_, rfl⟩
    rw [ey] at r0 HD HY
    clear ey hr hs
    have q4 := Cl.cell d4
    have q5 := Cl.cell d5
    have qa := Cl.cell r0
    have hne := Aft.here wr
    by_cases g7 : y ≥ nx
    ·have f2 : decide (y ≥ nx) = true := decide_eq_true g7
     have HX := hid (HD.out (fun h => by omega))
     clear g7
     go_upto_region 18 with fail
     refine region_all (by kernel_rfl) (by kernel_rfl) ?_
     repeat (go_big_quiet_step (fail))
     refine wpQuiet_nil ?_
     intro w6 h6
     have HS6 := hid ((HS7.out.trans HS.out).trans h6)
     clear h6 hne q4 q5 qa d0 d1 d2 d3 d4 d5 df r0 r1 r2
     go_wp2_with fail
     (first | rw [Exit.noGoto_ret] | skip)
     go_ret
     exact ⟨ret_int HX.out, HS6.out⟩
    have f2 : decide (y ≥ nx) = false := decide_eq_false g7
    have HX := hid (HY.out (by omega))
    clear g7
    go_upto_region 18 with fail
    refine region_all (by kernel_rfl) (by kernel_rfl) ?_
    repeat (go_big_quiet_step (fail))
    refine wpQuiet_nil ?_
    intro w6 h6
    have HS6 := hid (HS.out.trans h6)
    clear h6 hne q4 q5 qa d0 d1 d2 d3 d4 d5 df r0 r1 r2
    go_wp2_with fail
    go_roundw
    case rel => exact ⟨i + 1, by omega, by go_num, HX, HS6.out⟩
    case measure => first | (simp [intOf]; done) | (simp [intOf]; omega)
   have hge : ¬ (i : Int) < (k4 : Int) := by omega
   have HAk : Hid (∀ s ∈ W.ks, s.no < nx) := hid (all_getD (fun j hj => HJ.out j (by rw [EL.out.2.1] at hj; omega)))
   have HX : Hid ((0 : Int) = res) := hid (HYs.out (HFi.out.2 (by
    have k := HK0.out
    have e := EL.out.2.2.2
    refine ⟨⟨k.1, k.2.1, ?_, k.2.2.1, ?_, k.2.2.2.1.1, k.2.2.2.1.2⟩, k.2.2.2.2⟩
    ·rw [e]; exact HAl.out
    ·rw [e]; exact HAk.out)))
   have HS6 := hid (HS7.out.trans hs)
   clear HJ hs hi hin
   go_wp2_with fail
   go_ret
   exact ⟨ret_int HX.out, HS6.out⟩
end Go.Proofs.YtkgbmefaphhcnaaGreatDoor
