/- Parts of the proof, laid end to end. -/
import Derived.Test.YtdmlgbcgbddkoaaGreatDoorZT36
import Derived.Test.YtdmlgbcgbddkoaaGreatDoorZT38
import Derived.Test.YtdmlgbcgbddkoaaGreatDoorZT02
namespace Go.Proofs.YtdmlgbcgbddkoaaGreatDoor
open Go.RowKit
open Pu Gp Ap Vp Np Za Ka Ja Ea Ha Hg Hi
set_option maxRecDepth 100000
theorem a13_of (F : Cf) (hz : F.s.size <= 281474976710656) (v : Int) (hv : ChkV F.C F.R F.s v) (x : World) : A13 x F v (stV F.C F.s v) where
 chk u _ := (rmapcheck_any F.C F.R F.s hz u).mono fun e w' ⟨v', he, hv', hs⟩ => by
  rw [chkV_one hv' hv] at he
  exact ⟨he, hs⟩
 sts u _ := (rstarts_any F.C F.R F.s hz u).mono fun e w' ⟨a, v', he, hv', ho, hs⟩ => by
  rw [chkV_one hv' hv] at ho
  exact ⟨a, he, ho, hs⟩
def NewI (w wr : World) (b5 : Nat) (F : Cf) (so : Value) (st : List (Int × Int)) (i : Nat) : Prop := ∃ va vc, Wdb wr b5 0 1 va vc (.slice none 0 0) (.slice none 0 0) /\ OwG KM 62 wr w.heap.size va (nwM st i) /\ OwG KC 64 wr w.heap.size vc (nwC i) /\ OwG KT 60 wr w.heap.size so st /\ Cfb wr w.heap.size F /\ Wdb wr (w.heap.size + 1) 0 0 (.slice none 0 0) (.slice none 0 0) (.slice none 0 0) (.slice none 0 0) /\ Still w wr
set_option maxHeartbeats 8000000 in
theorem rnew_yes (N : Nat) (q C R : Int) (s : ByteArray) (lo : Option Addr) (ln lc : Nat) (E : Env) (l : List Int) (w : World) (v : Int) (A : A13 w ⟨(N : Int), q, C, R, s, .slice lo ln lc⟩ v E.st) (hr : RdI w lo ln lc l) (hc : CfgP (N : Int) v E.st.length l) :
    Calls Tryz.prog 14 #[.agg #[.int .i64 (N : Int), .int .u64 q, .int .i64 C, .int .i64 R, .string s, .slice lo ln lc]] w fun e w' => ∃ u, e = .returned (.tuple #[u, .int .i64 0]) /\ OwW w' w.heap.size u (nw0 E N) /\ Still w w' := by
  have A0 := Still.alloc w (.cells #[.int .i64 (N : Int), .int .u64 q, .int .i64 C, .int .i64 R, .string s, .slice lo ln lc] 27)
  have A1 := Still.alloc (w.alloc (.cells #[.int .i64 (N : Int), .int .u64 q, .int .i64 C, .int .i64 R, .string s, .slice lo ln lc] 27)) (.cells (wdcs 0 0 (.slice none 0 0) (.slice none 0 0) (.slice none 0 0) (.slice none 0 0)) 33)
  have p0 := (newCf_cb w ⟨(N : Int), q, C, R, s, .slice lo ln lc⟩).still A1
  have z0 := newWd_wb (w.alloc (.cells #[.int .i64 (N : Int), .int .u64 q, .int .i64 C, .int .i64 R, .string s, .slice lo ln lc] 27)) 0 0 (.slice none 0 0) (.slice none 0 0) (.slice none 0 0) (.slice none 0 0)
  rw [size_alloc] at z0
  have HS0 : Hid (Still w ((w.alloc (.cells #[.int .i64 (N : Int), .int .u64 q, .int .i64 C, .int .i64 R, .string s, .slice lo ln lc] 27)).alloc (.cells (wdcs 0 0 (.slice none 0 0) (.slice none 0 0) (.slice none 0 0) (.slice none 0 0)) 33))) := hid (A0.trans A1)
  have HP0 : Hid (Cfb ((w.alloc (.cells #[.int .i64 (N : Int), .int .u64 q, .int .i64 C, .int .i64 R, .string s, .slice lo ln lc] 27)).alloc (.cells (wdcs 0 0 (.slice none 0 0) (.slice none 0 0) (.slice none 0 0) (.slice none 0 0)) 33)) w.heap.size ⟨(N : Int), q, C, R, s, .slice lo ln lc⟩) := hid p0
  have HZ0 : Hid (Wdb ((w.alloc (.cells #[.int .i64 (N : Int), .int .u64 q, .int .i64 C, .int .i64 R, .string s, .slice lo ln lc] 27)).alloc (.cells (wdcs 0 0 (.slice none 0 0) (.slice none 0 0) (.slice none 0 0) (.slice none 0 0)) 33)) (w.heap.size + 1) 0 0 (.slice none 0 0) (.slice none 0 0) (.slice none 0 0) (.slice none 0 0)) := hid z0
  have HOp := hid (rcfg_any ⟨(N : Int), q, C, R, s, .slice lo ln lc⟩ v E.st l lo ln lc rfl ((w.alloc (.cells #[.int .i64 (N : Int), .int .u64 q, .int .i64 C, .int .i64 R, .string s, .slice lo ln lc] 27)).alloc (.cells (wdcs 0 0 (.slice none 0 0) (.slice none 0 0) (.slice none 0 0) (.slice none 0 0)) 33)) (A.still (A0.trans A1)) (hr.still (A0.trans A1)))
  rw [cfgE_yes (by exact hc)] at HOp
  have HA := hid A
  have HN := hid (show N <= 6 /\ N <= E.st.length by have := hc.2.1; have := hc.2.2.2.1; omega)
  clear A hr hc A0 A1 p0 z0
  obtain ⟨W0, eW0⟩ : ∃ X, ((w.alloc (.cells #[.int .i64 (N : Int), .int .u64 q, .int .i64 C, .int .i64 R, .string s, .slice lo ln lc] 27)).alloc (.cells (wdcs 0 0 (.slice none 0 0) (.slice none 0 0) (.slice none 0 0) (.slice none 0 0)) 33)) = X := ⟨_, rfl⟩
  rw [eW0] at HS0 HP0 HZ0 HOp
  obtain ⟨c0, c1, c2, c3, c4, c5, cf⟩ := HP0.out.cells
  dsimp only at c0 c1 c2 c3 c4 c5
  go_enter Tryz.func14, Tryz.ntmps14
  go_wp2_with fail
  refine HOp.out.mono ?_
  rintro e w1 ⟨rfl, h1⟩
  have A2 := Still.alloc w1 (.cells (wdcs 0 1 (.slice none 0 0) (.slice none 0 0) (.slice none 0 0) (.slice none 0 0)) 33)
  have h2 := h1.trans A2
  have HS2 := hid (HS0.out.trans h2)
  have HZ2 := hid (HZ0.out.still h2)
  have HP2 := hid (HP0.out.still h2)
  have HW2 : Hid (Wdb (w1.alloc (.cells (wdcs 0 1 (.slice none 0 0) (.slice none 0 0) (.slice none 0 0) (.slice none 0 0)) 33)) w1.heap.size 0 1 (.slice none 0 0) (.slice none 0 0) (.slice none 0 0) (.slice none 0 0)) := hid (newWd_wb w1 0 1 (.slice none 0 0) (.slice none 0 0) (.slice none 0 0) (.slice none 0 0))
  have HB := hid (show w.heap.size + 1 < w1.heap.size from Nat.lt_of_lt_of_le (block_lt HZ0.out) h1.size)
  obtain ⟨W2, eW2⟩ : ∃ X, w1.alloc (.cells (wdcs 0 1 (.slice none 0 0) (.slice none 0 0) (.slice none 0 0) (.slice none 0 0)) 33) = X := ⟨_, rfl⟩
  rw [eW2] at HS2 HZ2 HP2 HW2
  obtain ⟨b5, eb5⟩ : ∃ k, w1.heap.size = k := ⟨_, rfl⟩
  rw [eb5] at HW2 HB
  clear eW0 HOp c0 c1 c2 c3 c4 c5 cf h1 h2 A2 HS0 HP0 HZ0
  obtain ⟨c0, c1, c2, c3, c4, c5, cf⟩ := HP2.out.cells
  dsimp only at c0 c1 c2 c3 c4 c5
  go_wp2_with fail
  refine (HA.out.sts W2 HS2.out).mono ?_
  rintro e w3 ⟨vs, rfl, ho3, h3⟩
  obtain ⟨so, sc, rfl, _⟩ := ho3.slice
  have HT3 := hid (ho3.less HS2.out.size)
  have HS3 := hid (HS2.out.trans h3)
  have HZ3 := hid (HZ2.out.still h3)
  have HP3 := hid (HP2.out.still h3)
  have HW3 := hid (HW2.out.still h3)
  obtain ⟨sn, esn⟩ : ∃ k, E.st.length = k := ⟨_, rfl⟩
  rw [esn] at HT3 ⊢
  have HSn := hid esn
  clear eW2 eb5 ho3 h3 c0 c1 c2 c3 c4 c5 cf HS2 HZ2 HP2 HW2 esn HA
  go_wp2_with fail
  go_loopw [7] (fun u wr => ∃ i : Nat, i <= N /\ u = .int .i64 (i : Int) /\ NewI w wr b5 ⟨(N : Int), q, C, R, s, .slice lo ln lc⟩ (.slice so sn sc) E.st i) (fun u _ => N - (intOf u).toNat)
  case atStart => exact ⟨0, by omega, rfl, .slice none 0 0, .slice none 0 0, HW3.out, OwG.nil _ _, OwG.nil _ _, HT3.out, HP3.out, HZ3.out, HS3.out⟩
  case round =>
    clear HT3 HS3 HZ3 HP3 HW3
    obtain ⟨i, hi, rfl, va, vc, hw, ho, hcs, hto, hp, hz, hs⟩ := hrel
    obtain ⟨c0, c1, c2, c3, c4, c5, cf⟩ := hp.cells
    dsimp only at c0 c1 c2 c3 c4 c5
    obtain ⟨ao, cap, rfl, _⟩ := ho.slice
    obtain ⟨bo, bcap, rfl, _⟩ := hcs.slice
    rw [nwM_len] at ho hw
    rw [show (nwC i).length = i by simp [nwC]] at hcs hw
    have HW := hid hw
    have HO := hid ho
    have HC := hid hcs
    have HT := hid hto
    have HP := hid hp
    have HZ := hid hz
    have HS := hid hs
    by_cases hin : i < N
    · have hlt : (i : Int) < (N : Int) := by omega
      obtain ⟨gt, cpt, hv, hv1, hv2⟩ := hto.head (by have := HN.out; omega)
      simp only [Value.slice.injEq] at hv
      obtain ⟨rfl, hv3, hv4⟩ := hv
      have hsl : (i : Int) < (sn : Int) := by have := HN.out; have := HSn.out; omega
      obtain ⟨n0, n1, nf⟩ := owT hto (i := i) (by have := HN.out; omega)
      obtain ⟨x, ex⟩ : ∃ x, pp E.st i = x := ⟨_, rfl⟩
      obtain ⟨y0, y1⟩ := x
      have EX := hid ex
      rw [ex] at n0 n1
      dsimp only at n0 n1
      have hi6 : i < 6 := by have := HN.out; omega
      have hmul : IntKind.i64.wrap (4 * (i : Int)) = 4 * (i : Int) := by rw [IntKind.wrap_i64]; omega
      have HSt := hid (fun u => rstart_any y0 y1 (4 * (i : Int)) u)
      obtain ⟨m, em⟩ : ∃ m, startM y0 y1 (4 * (i : Int)) = m := ⟨_, rfl⟩
      have EM := hid em
      rw [em] at HSt
      clear hw ho hcs hto hp hz hs hv1 hv2 hv3 hv4 ex em c1 c2 c3 c4 c5
      go_wp2_with fail
      refine (HSt.out wr).mono ?_
      rintro e w4 ⟨rfl, h4⟩
      have A5 := Still.alloc w4 (.cells (mcs m) 62)
      have A6 := Still.alloc (w4.alloc (.cells (mcs m) 62)) (.cells (mcs m) 62)
      have hA := (h4.trans A5).trans A6
      have HO4 := hid (HO.out.still hA)
      have HC4 := hid (HC.out.still hA)
      have HT4 := hid (HT.out.still hA)
      have HW4 := hid (HW.out.still hA)
      have HP4 := hid (HP.out.still hA)
      have HZ4 := hid (HZ.out.still hA)
      have HS4 := hid (HS.out.trans hA)
      have mm0 := (show Mb (w4.alloc (.cells (mcs m) 62)) w4.heap.size m from heap_alloc_new w4 _)
      have HM := hid mm0
      have hW4a := (HW.out.still (h4.trans A5))
      have HY4 : Hid (((w4.alloc (.cells (mcs m) 62)).alloc (.cells (mcs m) 62)).heap[w4.heap.size + 1]? = some (.cells (mcs m) 62 (0, 0))) := hid (by
        have h := heap_alloc_new (w4.alloc (.cells (mcs m) 62)) (.cells (mcs m) 62)
        rw [size_alloc] at h
        exact h)
      have HB4 : Hid (w.heap.size <= ((w4.alloc (.cells (mcs m) 62)).alloc (.cells (mcs m) 62)).heap.size) := hid HS4.out.size
      have HL4 : Hid (((nwM E.st i).length + 1) * 104 <= 140737488355328) := hid (by rw [nwM_len]; omega)
      obtain ⟨d0, d1, d2, d3, d4, d5, df⟩ := hW4a.cells
      clear h4 hA A5 A6 HO HC HT HW HP HZ HS hW4a mm0 c0 cf n0 n1 nf
      obtain ⟨e0, e1, e2, e3, e4, e5, e6, e7, e8, e9, e10, e11, e12, ef⟩ := HM.out.cells
      go_wp2_with (first
        | (at_builtin
           refine wpList_appH KM _ rfl _ _ 28 rfl Tryz.underlying28 104 infoM w.heap.size (w4.heap.size + 1) _ (nwM E.st i) m rfl rfl HO4.out HY4.out HL4.out (by have := HL4.out; omega) HB4.out ?_
           intro v' w' ho' hf'
           have hT := HO4.out.frT (ts := [62]) hf' (Nat.le_refl _) (by simp)
           have k1 : Wdb w' b5 0 1 _ _ _ _ := hT.kept HW4.out (by decide)
           obtain ⟨g', cap', rfl, _, _⟩ := ho'.head (by simp)
           have el : (nwM E.st i ++ [m]).length = i + 1 := by simp [nwM_len]
           rw [el] at ho' ⊢
           have ty := k1.ty
           have hb := HB.out
           have HK5 := hid (k1.s1 (.slice (some ⟨g', 0, none⟩) (i + 1) cap'))
           have HO5 := hid (ho'.setO (o := 1) ty (by decide) (.slice (some ⟨g', 0, none⟩) (i + 1) cap'))
           have HC5 := hid ((HC4.out.keepT hT (by decide)).setO (o := 1) ty (by decide) (.slice (some ⟨g', 0, none⟩) (i + 1) cap'))
           have HT5 := hid ((HT4.out.keepT hT (by decide)).setO (o := 1) ty (by decide) (.slice (some ⟨g', 0, none⟩) (i + 1) cap'))
           have HP5 : Hid (Cfb (w'.setCell ⟨b5, 1, none⟩ (.slice (some ⟨g', 0, none⟩) (i + 1) cap')) w.heap.size ⟨(N : Int), q, C, R, s, .slice lo ln lc⟩) := hid ((heap_setCell_other _ _ _ _ (show w.heap.size ≠ b5 by omega)).trans (hT.kept HP4.out (by decide)))
           have HZ5 : Hid (Wdb (w'.setCell ⟨b5, 1, none⟩ (.slice (some ⟨g', 0, none⟩) (i + 1) cap')) (w.heap.size + 1) 0 0 (.slice none 0 0) (.slice none 0 0) (.slice none 0 0) (.slice none 0 0)) := hid (Wdb.other (hT.kept HZ4.out (by decide)) (show w.heap.size + 1 ≠ b5 by omega))
           have HS5 : Hid (Still w (w'.setCell ⟨b5, 1, none⟩ (.slice (some ⟨g', 0, none⟩) (i + 1) cap'))) := hid (Fr.setCell (hT.old HS4.out (Nat.le_refl _)) _ _ (.inr (show w.heap.size <= b5 by omega)))
           obtain ⟨a0, a1, a2, a3, a4, a5, af⟩ := k1.cells
           obtain ⟨W5, eW5⟩ : ∃ X, w'.setCell ⟨b5, 1, none⟩ (.slice (some ⟨g', 0, none⟩) (i + 1) cap') = X := ⟨_, rfl⟩
           rw [eW5] at HK5 HO5 HC5 HT5 HP5 HZ5 HS5
           have HY5 : Hid ((W5.alloc (.cells (ccs zC) 64)).heap[W5.heap.size]? = some (.cells (ccs zC) 64 (0, 0))) := hid (heap_alloc_new W5 _)
           obtain ⟨f0, f1, f2, f3, f4, f5, ff⟩ := HK5.out.cells
           clear ho' hf' hT k1 el ty hb HO4 HC4 HT4 HW4 HP4 HZ4 HS4 HM HY4 HB4 HL4 d0 d1 d2 d3 d4 d5 df e0 e1 e2 e3 e4 e5 e6 e7 e8 e9 e10 e11 e12 ef)
        | (at_builtin
           refine wpList_appH KC _ rfl _ _ 29 rfl Tryz.underlying29 32 infoC w.heap.size W5.heap.size _ (nwC i) zC rfl rfl (HC5.out.still (Still.alloc W5 _)) HY5.out (by rw [show (nwC i).length = i by simp [nwC]]; omega) (by rw [show (nwC i).length = i by simp [nwC]]; omega) (by have := HS5.out.size; simp; omega) ?_
           intro v2 w2 ho2 hf2
           have hT2 := (HC5.out.still (Still.alloc W5 _)).frT (ts := [64]) hf2 (Nat.le_refl _) (by simp)
           have k2 : Wdb w2 b5 0 1 _ _ _ _ := hT2.kept (HK5.out.still (Still.alloc W5 (.cells (ccs zC) 64))) (by decide)
           obtain ⟨g2, cap2, rfl, _, _⟩ := ho2.head (by simp)
           have el : (nwC i ++ [zC]).length = i + 1 := by simp [nwC]
           rw [el] at ho2 ⊢
           have ty := k2.ty
           have hb := HB.out
           have HK6 := hid (k2.s2 (.slice (some ⟨g2, 0, none⟩) (i + 1) cap2))
           have HC6 := hid (ho2.setO (o := 2) ty (by decide) (.slice (some ⟨g2, 0, none⟩) (i + 1) cap2))
           have HO6 := hid (((HO5.out.still (Still.alloc W5 _)).keepT hT2 (by decide)).setO (o := 2) ty (by decide) (.slice (some ⟨g2, 0, none⟩) (i + 1) cap2))
           have HT6 := hid (((HT5.out.still (Still.alloc W5 _)).keepT hT2 (by decide)).setO (o := 2) ty (by decide) (.slice (some ⟨g2, 0, none⟩) (i + 1) cap2))
           have HP6 : Hid (Cfb (w2.setCell ⟨b5, 2, none⟩ (.slice (some ⟨g2, 0, none⟩) (i + 1) cap2)) w.heap.size ⟨(N : Int), q, C, R, s, .slice lo ln lc⟩) := hid ((heap_setCell_other _ _ _ _ (show w.heap.size ≠ b5 by omega)).trans (hT2.kept (HP5.out.still (Still.alloc W5 _)) (by decide)))
           have HZ6 : Hid (Wdb (w2.setCell ⟨b5, 2, none⟩ (.slice (some ⟨g2, 0, none⟩) (i + 1) cap2)) (w.heap.size + 1) 0 0 (.slice none 0 0) (.slice none 0 0) (.slice none 0 0) (.slice none 0 0)) := hid (Wdb.other (hT2.kept (HZ5.out.still (Still.alloc W5 _)) (by decide)) (show w.heap.size + 1 ≠ b5 by omega))
           have HS6 : Hid (Still w (w2.setCell ⟨b5, 2, none⟩ (.slice (some ⟨g2, 0, none⟩) (i + 1) cap2))) := hid (Fr.setCell (hT2.old (HS5.out.trans (Still.alloc W5 _)) (Nat.le_refl _)) _ _ (.inr (show w.heap.size <= b5 by omega)))
           obtain ⟨t0, t1, t2, t3, t4, t5, tf⟩ := k2.cells
           clear ho2 hf2 hT2 k2 el ty hb eW5 HK5 HO5 HC5 HT5 HP5 HZ5 HS5 HY5 a0 a1 a2 a3 a4 a5 af f0 f1 f2 f3 f4 f5 ff))
      go_roundw
      case rel =>
        refine ⟨i + 1, by omega, by go_num, _, _, HK6.out, ?_, ?_, HT6.out, HP6.out, HZ6.out, HS6.out⟩
        · rw [show nwM E.st (i + 1) = nwM E.st i ++ [m] by rw [nwM, EX.out, EM.out]]
          exact HO6.out
        · rw [nwC_next]
          exact HC6.out
      case measure => first | (simp [intOf]; done) | (simp [intOf]; omega)
    · have hge : ¬ (i : Int) < (N : Int) := by omega
      obtain rfl : i = N := by omega
      obtain ⟨d0, d1, d2, d3, d4, d5, df⟩ := HW.out.cells
      obtain ⟨z0, z1, z2, z3, z4, z5, zf⟩ := HZ.out.cells
      clear hw ho hcs hto hp hz hs hin hi
      go_wp2_with fail
      have ty := HZ.out.ty
      refine bodyPost_ret (Wdb.res2 (HZ.out.put 0 1 _ _ _ _) rfl _ _ rfl rfl) rfl ⟨_, rfl, ⟨_, _, _, _, rfl, HO.out.set6 ty (by decide) _ _ _ _ _ _, HC.out.set6 ty (by decide) _ _ _ _ _ _, OwG.nil _ _, OwG.nil _ _⟩, still_set6 HS.out (by omega) _ _ _ _ _ _⟩
end Go.Proofs.YtdmlgbcgbddkoaaGreatDoor
