/- Parts of the proof, laid end to end. -/
import Derived.Test.YtkgbmefaphhcnaaGreatDoorZU24
import Derived.Test.YtkgbmefaphhcnaaGreatDoorZU28
import Derived.Test.YtkgbmefaphhcnaaGreatDoorZU27
import Derived.Lib.Strings
import Derived.Test.YtkgbmefaphhcnaaGreatDoorZU04
namespace Go.Proofs.YtkgbmefaphhcnaaGreatDoor
open Go.RowKit
open Pu Gp Ap Vp Np Za Ka Ja Ea Ha Wp
set_option maxRecDepth 100000
set_option linter.unusedVariables false
set_option linter.unusedSimpArgs false
def hdM (k : Nat) : Mch (Int × List Mv × List Scr) := Wp.mB byM fun c => Wp.mB (mG (c == 87)) fun _ => Wp.mB inM fun f => Wp.mB (maM mvM k) fun ms => Wp.mB (maM scM k) fun cs => mR (f, ms, cs)
theorem hdM_parts (k : Nat) (s : Rs) : ∃ c S1 f S2 ms S3 cs S4, byM s = (c, S1) /\ inM ⟨S1.bs, S1.e, S1.y || !(c == 87)⟩ = (f, S2) /\ maM mvM k S2 = (ms, S3) /\ maM scM k S3 = (cs, S4) /\ hdM k s = ((f, ms, cs), S4) /\ S1.y = s.y /\ S2.y = (S1.y || !(c == 87)) :=
 ⟨_, _, _, _, _, _, _, _, rfl, rfl, rfl, rfl, rfl, rfl, rfl⟩
theorem scM_parts (s : Rs) : ∃ x0 x1 x2 x3 S, maM inM 4 s = ([x0, x1, x2, x3], S) /\ scM s = (⟨x0, x1, x2, x3⟩, S) /\ S.y = s.y := ⟨_, _, _, _, _, rfl, rfl, rfl⟩
theorem nm_87 (b : UInt8) : (nm b == 87) = (b == 87) := by
 unfold nm
 by_cases h : b = 87
 ·subst h; rfl
 ·have : ¬ b.toNat = 87 := fun e => h (UInt8.toNat_inj.1 e)
  rw [beq_eq_false_iff_ne.2 h]
  simp only [beq_eq_false_iff_ne, ne_eq]
  omega
set_option maxHeartbeats 16000000 in
theorem rheads_any (p L N : Nat) (hN : N <= 100) (s : Rs) (hy : s.y = false) (w : World) (h : Dq w p L s) : Calls Tryz.prog 51 #[.pointer (some ⟨p, 0, none⟩), .int .i64 (N : Int)] w fun e w' => ∃ a b, e = .returned (.tuple #[.agg (wdcs (hdM N s).1.1 0 a b (.slice none 0 0) (.slice none 0 0)), .bool (!(hdM N s).2.y)]) /\ OwG KM 55 w' w.heap.size a (hdM N s).1.2.1 /\ OwG KC 57 w' w.heap.size b (hdM N s).1.2.2 /\ Td w w' p L (hdM N s).2 := by
 obtain ⟨c, S1, f, S2, ms, S3, cs, S4, e1, e2, e3, e4, e5, e6, e7⟩ := hdM_parts N s
 have HE5 := hid e5
 have HE3 := hid e3
 have HE4 := hid e4
 have HY := hid hy
 have HE7 : Hid (S2.y = !(c == 87)) := hid (by rw [e7, e6, hy]; rfl)
 have HPl := hid h.lt
 have HBy := hid (fun u (hu : Dq u p L s) => dbyte_any p L s u hu)
 rw [e1] at HBy
 dsimp only at HBy
 obtain ⟨S1g, eS1g⟩ : ∃ q : Rs, (⟨S1.bs, S1.e, S1.y || !(c == 87)⟩ : Rs) = q := ⟨_, rfl⟩
 have HLk : Hid (S1g.bs = S1.bs /\ S1g.e = S1.e) := hid (by rw [<- eS1g]; exact ⟨rfl, rfl⟩)
 rw [eS1g] at e2
 have HIn := hid (fun u (hu : Dq u p L S1g) => dint_any p L S1g u hu)
 rw [e2] at HIn
 dsimp only at HIn
 obtain ⟨z, ez⟩ : ∃ z, nm c = z := ⟨_, rfl⟩
 have t1 := nm_87 c
 rw [ez] at HBy t1
 obtain ⟨g87, eg87⟩ : ∃ q, (c == 87) = q := ⟨_, rfl⟩
 rw [eg87] at t1 HE7
 have A0 := Still.alloc w (.cells zcs 27)
 have p0 : Wdb (w.alloc (.cells zcs 27)) w.heap.size 0 0 (.slice none 0 0) (.slice none 0 0) (.slice none 0 0) (.slice none 0 0) := heap_alloc_new w _
 obtain ⟨W1, eW1⟩ : ∃ X, w.alloc (.cells zcs 27) = X := ⟨_, rfl⟩
 obtain ⟨g0, eg0⟩ : ∃ X, w.heap.size = X := ⟨_, rfl⟩
 have hsz : W1.heap.size = g0 + 1 := by rw [<- eW1, size_alloc, eg0]
 rw [eW1] at A0 p0
 rw [eg0] at p0
 have A1 := Still.alloc W1 (.cells zcs 27)
 have p1 : Wdb (W1.alloc (.cells zcs 27)) W1.heap.size 0 0 (.slice none 0 0) (.slice none 0 0) (.slice none 0 0) (.slice none 0 0) := heap_alloc_new W1 _
 have HG0 : Hid (Gz W1 (W1.alloc (.cells zcs 27)) p L (g0 + 1) s 0 0 (.slice none 0 0) (.slice none 0 0) (.slice none 0 0) (.slice none 0 0) [] [] [] []) := hid ⟨OwG.nil _ _, OwG.nil _ _, OwG.nil _ _, OwG.nil _ _, by rw [<- hsz]; exact p1, (h.still A0).still A1, Still.to A1, by have := h.lt; omega, by omega⟩
 obtain ⟨W2, eW2⟩ : ∃ X, W1.alloc (.cells zcs 27) = X := ⟨_, rfl⟩
 rw [eW2] at HG0
 have HA0 := hid A0
 have HP0 := hid p0
 have HSz : Hid (W1.heap.size = g0 + 1 /\ w.heap.size = g0) := hid ⟨hsz, eg0⟩
 obtain ⟨gw, egw⟩ : ∃ X, g0 + 1 = X := ⟨_, rfl⟩
 rw [egw] at HG0
 have HGw : Hid (g0 + 1 = gw) := hid egw
 have eall : (w.alloc (.cells zcs 27)).alloc (.cells zcs 27) = W2 := by rw [eW1, eW2]
 clear h A0 p0 p1 A1 e1 e2 e3 e4 e5 e6 e7 ez eg87 eS1g hsz hy eW1 eW2
 have HEa := hid eall
 clear eall eg0 egw
 go_enter Tryz.func51, Tryz.ntmps51
 go_wp2_with fail
 rw [HEa.out]
 rw [HSz.out.2, HGw.out]
 refine (HBy.out W2 HG0.out.r).mono ?_
 rintro e w1 ⟨he, h1⟩
 rw [he]
 have HG1 := hid ((HG0.out.read h1).like HLk.out.1 HLk.out.2)
 clear he h1 HBy HG0
 go_wp2_with fail
 refine (HIn.out w1 HG1.out.r).mono ?_
 rintro e w2 ⟨he, h2⟩
 rw [he]
 have HG2 := hid (HG1.out.read h2)
 clear he h2 HIn HG1
 obtain ⟨c0, c1, c2, c3, c4, c5, cf⟩ := HG2.out.wb.cells
 have HG3 : Hid (Gz W1 (w2.setCell ⟨gw, 0, none⟩ (.int .i64 f)) p L gw S2 f 0 (.slice none 0 0) (.slice none 0 0) (.slice none 0 0) (.slice none 0 0) [] [] [] []) := hid (HG2.out.set ((heap_setCell_same w2 gw 0 _ _ _ HG2.out.wb).trans (by kernel_rfl)))
 obtain ⟨W3, eW3⟩ : ∃ X, w2.setCell ⟨gw, 0, none⟩ (.int .i64 f) = X := ⟨_, rfl⟩
 rw [eW3] at HG3
 clear HG2
 go_wp2_with fail
 clear eW3 c0 c1 c2 c3 c4 c5 cf t1
 go_loopw [9, 10] (fun u9 u10 wr => ∃ (i : Nat) (l : List Mv) (v : Value) (s1 : Rs) (gd : Bool), i <= N /\ u9 = .bool gd /\ u10 = .int .i64 (i : Int) /\ Hid (gd = !s1.y /\ l.length = i /\ maM mvM N S2 = (l ++ (maM mvM (N - i) s1).1, (maM mvM (N - i) s1).2) /\ Gz W1 wr p L gw s1 f 0 v (.slice none 0 0) (.slice none 0 0) (.slice none 0 0) l [] [] [])) (fun _ u10 _ => N - (intOf u10).toNat)
 case atStart => exact ⟨0, [], (.slice none 0 0), S2, g87, by omega, rfl, rfl, hid ⟨by rw [HE7.out]; simp, rfl, rfl, HG3.out⟩⟩
 case round =>
  clear HG3
  obtain ⟨i, l, v, s1, gd, hi, rfl, rfl, HI⟩ := hrel
  by_cases hin : i < N
  ·have hlt : (i : Int) < (N : Int) := by omega
   have HF := hid (maM_step hin HI.out.2.2.1)
   have HC := hid (rmover14_any p L s1 wr HI.out.2.2.2.r)
   obtain ⟨x, S, ex⟩ : ∃ a b, mvM s1 = (a, b) := ⟨_, _, rfl⟩
   rw [ex] at HF HC
   dsimp only at HF HC
   obtain ⟨ao, cap, rfl, _⟩ := HI.out.2.2.2.oa.slice
   clear ex
   go_wp2_with fail
   refine HC.out.mono ?_
   rintro e w5 ⟨ok, he, hyy, h5⟩
   rw [he]
   have A5 := Still.alloc w5 (.cells (mcs x) 55)
   have HG5 := hid ((HI.out.2.2.2.read h5).still A5)
   have pm : Mb (w5.alloc (.cells (mcs x) 55)) w5.heap.size x := heap_alloc_new w5 _
   obtain ⟨n, en⟩ : ∃ n, l.length = n := ⟨_, rfl⟩
   have HLn : Hid (l.length = n /\ n = i) := hid ⟨en, by rw [<- en]; exact HI.out.2.1⟩
   rw [en] at HG5
   have HGd : Hid ((gd && ok) = !S.y) := hid (by rw [hyy, HI.out.1]; cases s1.y <;> cases ok <;> rfl)
   obtain ⟨W5, eW5⟩ : ∃ X, w5.alloc (.cells (mcs x) 55) = X := ⟨_, rfl⟩
   obtain ⟨gm, egm⟩ : ∃ X, w5.heap.size = X := ⟨_, rfl⟩
   rw [eW5] at HG5 pm
   rw [egm] at pm
   have HPm := hid pm
   obtain ⟨d0, d1, d2, d3, d4, d5, d6, d7, d8, d9, d10, d11, d12, df⟩ := pm.cells
   obtain ⟨c0, c1, c2, c3, c4, c5, cf⟩ := HG5.out.wb.cells
   have HZ5 : Hid (W1.heap.size <= W5.heap.size) := hid HG5.out.f.size
   clear he hyy h5 HC A5 pm HI en
   cases gd
   all_goals
    go_wp2_with (
     at_builtin
     refine wpList_appH KM _ rfl _ _ 22 rfl Tryz.underlying22 104 infoM W1.heap.size W5.heap.size _ l x rfl rfl (HG5.out.oa.still (Still.alloc W5 _)) (heap_alloc_new W5 _) (by have := HLn.out; omega) (by have := HLn.out; omega) (by rw [size_alloc]; have := HZ5.out; omega) ?_
     intro v' v0 ho hf
     obtain ⟨gn, cn, rfl, _, _⟩ := ho.head (by simp)
     obtain ⟨hA, hW⟩ := HG5.out.app1 ho hf
     rw [show (l ++ [x]).length = l.length + 1 by simp] at hA
     clear c0 c1 c2 c3 c4 c5 cf d0 d1 d2 d3 d4 d5 d6 d7 d8 d9 d10 d11 d12 df
     obtain ⟨c0, c1, c2, c3, c4, c5, cf⟩ := hW.cells
     have HA := hid hA
     clear ho hf hA hW)
    go_roundw
    case rel => exact ⟨i + 1, l ++ [x], _, S, _, by omega, rfl, by go_num, hid ⟨HGd.out, by have := HLn.out; simp; omega, HF.out, HA.out⟩⟩
    case measure => simp [intOf]; omega
  ·obtain rfl : i = N := by omega
   have hge : ¬ (i : Int) < (i : Int) := by omega
   obtain ⟨hgd, hll, hmm, hG⟩ := HI.out
   have hmm2 := maM_end hmm
   rw [HE3.out] at hmm2
   injection hmm2 with hm1 hm2
   subst hm1 hm2
   have HGd : Hid (gd = !S3.y) := hid hgd
   have HG6 := hid hG
   clear HI hgd hll hmm hG hi hin
   go_wp2_with fail
   go_loopw [13] (fun u13 wr => ∃ (j : Nat) (l : List Scr) (v2 : Value) (s2 : Rs), j <= i /\ u13 = .int .i64 (j : Int) /\ Hid (s2.y = S3.y /\ l.length = j /\ maM scM i S3 = (l ++ (maM scM (i - j) s2).1, (maM scM (i - j) s2).2) /\ Gz W1 wr p L gw s2 f 0 v v2 (.slice none 0 0) (.slice none 0 0) ms l [] [])) (fun u13 _ => i - (intOf u13).toNat)
   case atStart => exact ⟨0, [], (.slice none 0 0), S3, by omega, rfl, hid ⟨rfl, rfl, rfl, HG6.out⟩⟩
   case round =>
    clear HG6
    obtain ⟨j, l, v2, s2, hj, rfl, HI⟩ := hrel
    by_cases hjn : j < i
    ·have hlt : (j : Int) < (i : Int) := by omega
     have HF := hid (maM_step hjn HI.out.2.2.1)
     obtain ⟨x0, x1, x2, x3, S, q1, q2, q3⟩ := scM_parts s2
     have HC := hid (rtaken_any p L 4 (by omega) s2 wr HI.out.2.2.2.r)
     rw [q2] at HF
     rw [q1, show ((4 : Nat) : Int) = 4 from rfl] at HC
     dsimp only at HF HC
     obtain ⟨ao, cap, rfl, _⟩ := HI.out.2.2.2.ob.slice
     obtain ⟨am, cam, rfl, _⟩ := HI.out.2.2.2.oa.slice
     have HQ3 := hid q3
     clear q1 q2 q3 hge
     go_wp2_with fail
     refine HC.out.mono ?_
     rintro e w5 ⟨ro, rc, he, hro, hrf, h5⟩
     rw [he]
     obtain ⟨gb, egb⟩ := hro.head (by omega)
     subst egb
     have HG5 := hid (HI.out.2.2.2.read h5)
     have HO5 := hid hro
     obtain ⟨n, en⟩ : ∃ n, l.length = n := ⟨_, rfl⟩
     have HLn : Hid (l.length = n /\ n = j) := hid ⟨en, by rw [<- en]; exact HI.out.2.1⟩
     obtain ⟨nm, enm⟩ : ∃ n, ms.length = n := ⟨_, rfl⟩
     rw [en, enm] at HG5
     have HNm := hid enm
     have HYs : Hid (S.y = S3.y) := hid (by rw [HQ3.out, HI.out.1])
     have HZ5 : Hid (W1.heap.size <= w5.heap.size) := hid HG5.out.f.size
     clear he hro hrf h5 HC HI en enm HQ3
     go_upto_region 16 with fail
     refine region_laid 15 1 (by kernel_rfl) (by kernel_rfl) (by kernel_rfl) ?_
     apply Exists.intro
     refine And.intro ?_ (And.intro ?_ ?_)
     ·intro u hu
      have hrd := (HO5.out.still hu).rd
      have hrl := hrd.len
      have k0 := Cl.cell (hrd.byte (k := 0) (by rw [hrl]; omega))
      have k1 := Cl.cell (hrd.byte (k := 1) (by rw [hrl]; omega))
      have k2 := Cl.cell (hrd.byte (k := 2) (by rw [hrl]; omega))
      have k3 := Cl.cell (hrd.byte (k := 3) (by rw [hrl]; omega))
      simp only [List.getElem_cons_zero, List.getElem_cons_succ, Nat.zero_add, Nat.add_zero] at k0 k1 k2 k3
      obtain ⟨c0, c1, c2, c3, c4, c5, cf⟩ := (HG5.out.still hu).wb.cells
      have k4 := Cl.cell c2
      have hne := Aft.here u
      clear hrd hrl c0 c1 c2 c3 c4 c5 cf
      simp only [List.take_succ_cons, List.take_zero]
      repeat (go_big_quiet_step (fail))
      exact wpQuiet_nil rfl
     ·intro _ o ho u hu
      obtain rfl := Option.some.inj ho
      exact ⟨_, _, bs_cv14 (s := ⟨x0, x1, x2, x3⟩) rfl rfl u, Still.alloc u _⟩
     intro w6 h6
     simp only [List.drop_succ_cons, List.drop_zero]
     have HG6 := hid (HG5.out.still h6)
     have HZ6 : Hid (W1.heap.size <= w6.heap.size) := hid HG6.out.f.size
     clear h6 HG5 HO5 HZ5
     go_wp2_with (
      at_builtin
      refine wpList_appH KC _ rfl _ _ 23 rfl Tryz.underlying23 32 infoC W1.heap.size w6.heap.size _ l (⟨x0, x1, x2, x3⟩ : Scr) rfl rfl (HG6.out.ob.still (Still.alloc w6 _)) (heap_alloc_new w6 _) (by have := HLn.out; omega) (by have := HLn.out; omega) (by rw [size_alloc]; have := HZ6.out; omega) ?_
      intro v' v0 ho hf
      obtain ⟨gn, cn, rfl, _, _⟩ := ho.head (by simp)
      obtain ⟨hA, hW⟩ := HG6.out.app2 ho hf
      rw [show (l ++ [(⟨x0, x1, x2, x3⟩ : Scr)]).length = l.length + 1 by simp] at hA
      obtain ⟨c0, c1, c2, c3, c4, c5, cf⟩ := hW.cells
      have HA := hid hA
      clear ho hf hA hW)
     refine ⟨rfl, ?_⟩
     have HR8 : Hid (S.y = S3.y /\ (l ++ [(⟨x0, x1, x2, x3⟩ : Scr)]).length = j + 1 /\ maM scM i S3 = ((l ++ [(⟨x0, x1, x2, x3⟩ : Scr)]) ++ (maM scM (i - (j + 1)) S).1, (maM scM (i - (j + 1)) S).2) /\ Gz W1 (v0.setCell ⟨gw, 2, none⟩ (.slice (some ⟨gn, 0, none⟩) (l.length + 1) cn)) p L gw S f 0 (.slice am ms.length cam) (.slice (some ⟨gn, 0, none⟩) (l.length + 1) cn) (.slice none 0 0) (.slice none 0 0) ms (l ++ [(⟨x0, x1, x2, x3⟩ : Scr)]) [] []) := hid (by
      rw [HNm.out]
      exact ⟨HYs.out, by have := HLn.out; simp; omega, HF.out, HA.out⟩)
     go_wp2_with fail
     go_roundw
     case rel => exact ⟨j + 1, l ++ [(⟨x0, x1, x2, x3⟩ : Scr)], .slice (some ⟨gn, 0, none⟩) (l.length + 1) cn, S, by omega, by go_num, HR8⟩
     case measure => simp [intOf]; omega
    ·obtain rfl : j = i := by omega
     have hge : ¬ (j : Int) < (j : Int) := by omega
     obtain ⟨hsy, hll, hmm, hG⟩ := HI.out
     have hmm2 := maM_end hmm
     rw [HE4.out] at hmm2
     injection hmm2 with hm1 hm2
     subst hm1 hm2
     obtain ⟨am, cam, rfl, _⟩ := hG.oa.slice
     obtain ⟨az, caz, rfl, _⟩ := hG.ob.slice
     have HG7 := hid hG
     have HSy : Hid (S4.y = S3.y) := hid hsy
     have HR7 : Hid (Wdb wr g0 0 0 (.slice none 0 0) (.slice none 0 0) (.slice none 0 0) (.slice none 0 0)) := hid (hG.f.kept HP0.out (fun e => by have := HPl.out; have := HSz.out; omega))
     obtain ⟨nm, enm⟩ : ∃ n, ms.length = n := ⟨_, rfl⟩
     obtain ⟨ns, ens⟩ : ∃ n, cs.length = n := ⟨_, rfl⟩
     have HLs := hid (And.intro enm ens)
     obtain ⟨c0, c1, c2, c3, c4, c5, cf⟩ := hG.wb.cells
     obtain ⟨d0, d1, d2, d3, d4, d5, df⟩ := HR7.out.cells
     rw [enm] at c1
     rw [ens] at c2
     clear HI hsy hll hmm hG hj hjn enm ens
     go_wp2_with fail
     have hf : Fr (fun k => k = g0) wr ((((((wr.setCell ⟨g0, 0, none⟩ (.int .i64 f)).setCell ⟨g0, 1, none⟩ (.slice am nm cam)).setCell ⟨g0, 2, none⟩ (.slice az ns caz)).setCell ⟨g0, 3, none⟩ (.slice none 0 0)).setCell ⟨g0, 4, none⟩ (.slice none 0 0)).setCell ⟨g0, 5, none⟩ (.int .i64 0)) := Fr.setCell (Fr.setCell (Fr.setCell (Fr.setCell (Fr.setCell (Fr.setCell (Fr.refl (fun k => k = g0) wr) _ _ (.inl rfl)) _ _ (.inl rfl)) _ _ (.inl rfl)) _ _ (.inl rfl)) _ _ (.inl rfl)) _ _ (.inl rfl)
     refine bodyPost_ret (Wdb.res2 (HR7.out.put f 0 (.slice am nm cam) (.slice az ns caz) (.slice none 0 0) (.slice none 0 0)) rfl _ _ rfl rfl) rfl ?_
     have hlo : g0 < W1.heap.size := by have := HSz.out; omega
     refine ⟨.slice am nm cam, .slice az ns caz, ?_, ?_, ?_, ?_⟩
     ·rw [HE5.out]
      dsimp only
      rw [HSy.out, <- HGd.out]
      rfl
     ·rw [HE5.out]
      have ho := HG7.out.oa
      rw [HLs.out.1] at ho
      exact ((ho.keep hf (fun k hk e => by have := (ho.block e).1; omega)).less (by have := HSz.out; omega))
     ·rw [HE5.out]
      have ho := HG7.out.ob
      rw [HLs.out.2] at ho
      exact ((ho.keep hf (fun k hk e => by have := (ho.block e).1; omega)).less (by have := HSz.out; omega))
     ·rw [HE5.out]
      exact ⟨HG7.out.r.keep hf (fun k hk => ⟨zcs, 27, (0, 0), by rw [hk]; exact HR7.out, by decide, by decide⟩), Fr.trans (Fr.trans (Still.to HA0.out) HG7.out.f (fun k hk e => e)) hf (fun k hk e => by have := HSz.out; omega)⟩
end Go.Proofs.YtkgbmefaphhcnaaGreatDoor
set_option maxRecDepth 100000
namespace Go.Proofs.YtkgbmefaphhcnaaGreatDoor
open Pu Gp Ap Vp Np Za Ka Ja Ea Ha Hi Wp
set_option linter.unusedVariables false
set_option linter.unusedSimpArgs false
theorem pB_assoc {α β γ : Type} (p : Prs α) (q : α -> Prs β) (r : β -> Prs γ) : pB (pB p q) r = pB p (fun x => pB (q x) r) := by
 funext bs
 unfold pB
 cases p bs <;> rfl
def gM (L n : Nat) : Mch Unit := fun s => ((), ⟨s.bs, s.e, s.y || !decide (n <= max L s.bs.length /\ n <= 2147483647)⟩)
def lsM {α : Type} (L : Nat) (f : Mch α) : Mch (List α) := Wp.mB unM fun n => Wp.mB (gM L n) fun _ => maM f n
theorem gM_bad {L n : Nat} {s : Rs} (h : s.bad) : ((gM L n) s).2.bad := by
 rcases h with h | h
 ·exact .inl h
 ·exact .inr (by simp [gM, h])
theorem par_ls {α : Type} {f : Mch α} {p : Prs α} {B : α -> List UInt8} {G : α -> Prop} (L c : Nat) (hc : 0 < c) (h : Par f p) (hb : ∀ bs x r, p bs = some (x, r) -> bs = B x ++ r /\ G x) (hB : ∀ x, c <= (B x).length) : Par (lsM L f) (pB (pCn c) (pMa p)) := by
 refine ⟨fun s hs => (par_ma h _).bad _ (gM_bad (par_un.bad s hs)), fun bs v r e => ?_, fun bs e => ?_⟩
 ·unfold pCn at e
  rw [pB_assoc] at e
  obtain ⟨n, t, e1, e2⟩ := pB_some e
  obtain ⟨n', t', e3, e4⟩ := pB_some e2
  unfold pCg at e3
  by_cases hn : n <= 2147483647 /\ n <= t.length / c
  ·rw [if_pos hn] at e3
   cases e3
   have hle : n <= max L t.length := by
    have := Nat.div_le_self t.length c
    omega
   have hu := par_un.ok _ _ _ e1
   show (maM f (unM ⟨bs, 0, false⟩).1 (gM L (unM ⟨bs, 0, false⟩).1 (unM ⟨bs, 0, false⟩).2).2) = (v, ⟨r, 0, false⟩)
   rw [hu]
   have hg : (gM L n ⟨t, 0, false⟩).2 = ⟨t, 0, false⟩ := by simp [gM, hle, hn.1]
   dsimp only
   rw [hg]
   exact (par_ma h n).ok _ _ _ e4
  ·rw [if_neg hn] at e3
   cases e3
 ·show (maM f (unM ⟨bs, 0, false⟩).1 (gM L (unM ⟨bs, 0, false⟩).1 (unM ⟨bs, 0, false⟩).2).2).2.bad
  unfold pCn at e
  rw [pB_assoc] at e
  cases hp : pU bs with
  | none => exact (par_ma h _).bad _ (gM_bad (par_un.no _ hp))
  | some z =>
   obtain ⟨n, t⟩ := z
   rw [pB_at hp] at e
   rw [par_un.ok _ _ _ hp]
   dsimp only
   by_cases hg : n <= max L t.length /\ n <= 2147483647
   ·have hg2 : (gM L n ⟨t, 0, false⟩).2 = ⟨t, 0, false⟩ := by simp [gM, hg.1, hg.2]
    rw [hg2]
    refine (par_ma h n).no _ ?_
    cases hm : pMa p n t with
    | none => rfl
    | some y =>
     obtain ⟨l, r⟩ := y
     exfalso
     obtain ⟨m1, m2, _⟩ := pMa_back hb n l t r hm
     have m3 := flat_ge B c hB l
     have m4 := congrArg List.length m2
     rw [List.length_append] at m4
     have : n <= t.length / c := (Nat.le_div_iff_mul_le hc).2 (by rw [Nat.mul_comm, <- m1]; omega)
     unfold pCg at e
     rw [pB_at (show (fun bs => if n <= 2147483647 /\ n <= bs.length / c then some (n, bs) else none) t = some (n, t) from if_pos ⟨hg.2, this⟩), hm] at e
     cases e
   ·refine (par_ma h n).bad _ (.inr ?_)
    simp only [gM, Bool.false_or, Bool.not_eq_true', decide_eq_false_iff_not]
    exact hg
def ewM (k L : Nat) : Mch Wd := Wp.mB byM fun c => Wp.mB (mG (c == 87)) fun _ => Wp.mB inM fun f => Wp.mB (maM mvM k) fun ms => Wp.mB (maM scM k) fun cs => Wp.mB (lsM L shM) fun hs => Wp.mB (lsM L pkM) fun ks => Wp.mB inM fun nx => mR ⟨f, ms, cs, hs, ks, nx⟩
theorem par_ew (k L : Nat) : Par (ewM k L) (pWd k) := by
 have h : Par (ewM k L) (pB pY fun c => pB (pG (c == 87)) fun _ => pB pI fun f => pB (pMa pMv k) fun ms => pB (pMa pSc k) fun cs => pB (pB (pCn 8) (pMa pSh)) fun hs => pB (pB (pCn 3) (pMa pPk)) fun ks => pB pI fun nx => pR ⟨f, ms, cs, hs, ks, nx⟩) :=
  par_by.bind fun _ => (Par.guard _).bind fun _ => par_in.bind fun _ => (par_ma par_mv k).bind fun _ => (par_ma par_sc k).bind fun _ => (par_ls L 8 (by omega) par_sh pSh_back shB_ge).bind fun _ => (par_ls L 3 (by omega) par_pk pPk_back pkB_ge).bind fun _ => par_in.bind fun _ => Par.ret _
 simp only [pB_assoc] at h
 exact h
structure Ew (k L : Nat) (B : List UInt8) (f : Int) (ms : List Mv) (cs : List Scr) (S4 : Rs) (n : Nat) (S5 S5g : Rs) (hs : List Sh) (S6 : Rs) (m : Nat) (S7 S7g : Rs) (ks : List Pk) (S8 : Rs) (nx : Int) (S9 : Rs) : Prop where
 hd : hdM k ⟨B, 0, false⟩ = ((f, ms, cs), S4)
 u1 : unM S4 = (n, S5)
 g1 : S5g.bs = S5.bs /\ S5g.e = S5.e
 l1 : maM shM n S5g = (hs, S6)
 u2 : unM S6 = (m, S7)
 g2 : S7g.bs = S7.bs /\ S7g.e = S7.e
 l2 : maM pkM m S7g = (ks, S8)
 tk : maM inM 1 S8 = ([nx], S9)
 no1 : S4.y = true -> saysW k B = none
 no2 : L < n -> L <= 2147483647 -> S5.bs.length <= L -> saysW k B = none
 no3 : L < m -> L <= 2147483647 -> S7.bs.length <= L -> saysW k B = none
 no4 : (if S9.e = 0 /\ 0 < S9.bs.length then (23 : Int) else S9.e) ≠ 0 -> saysW k B = none
 yes : S4.y = false -> n <= L -> m <= L -> L <= 2147483647 -> (if S9.e = 0 /\ 0 < S9.bs.length then (23 : Int) else S9.e) = 0 -> saysW k B = some ⟨f, ms, cs, hs, ks, nx⟩
theorem sh_y {s : Rs} : ∀ n, (maM shM n s).2.y = s.y
 | 0 => rfl
 | n + 1 => by
  rw [maM_succ]
  dsimp only
  rw [sh_y n]
  rfl
theorem pk_y {s : Rs} : ∀ n, (maM pkM n s).2.y = s.y
 | 0 => rfl
 | n + 1 => by
  rw [maM_succ]
  dsimp only
  rw [pk_y n]
  rfl
theorem ew_any (k L : Nat) (B : List UInt8) : ∃ f ms cs S4 n S5 S5g hs S6 m S7 S7g ks S8 nx S9, Ew k L B f ms cs S4 n S5 S5g hs S6 m S7 S7g ks S8 nx S9 := by
 obtain ⟨⟨⟨f, ms, cs⟩, S4⟩, eh⟩ : ∃ q, hdM k ⟨B, 0, false⟩ = q := ⟨_, rfl⟩
 obtain ⟨⟨n, S5⟩, e5⟩ : ∃ q, unM S4 = q := ⟨_, rfl⟩
 obtain ⟨S5g, e5g⟩ : ∃ q, (gM L n S5).2 = q := ⟨_, rfl⟩
 obtain ⟨⟨hs, S6⟩, e6⟩ : ∃ q, maM shM n S5g = q := ⟨_, rfl⟩
 obtain ⟨⟨m, S7⟩, e7⟩ : ∃ q, unM S6 = q := ⟨_, rfl⟩
 obtain ⟨S7g, e7g⟩ : ∃ q, (gM L m S7).2 = q := ⟨_, rfl⟩
 obtain ⟨⟨ks, S8⟩, e8⟩ : ∃ q, maM pkM m S7g = q := ⟨_, rfl⟩
 obtain ⟨⟨nx, S9⟩, e9⟩ : ∃ q, inM S8 = q := ⟨_, rfl⟩
 have hall : ewM k L ⟨B, 0, false⟩ = (⟨f, ms, cs, hs, ks, nx⟩, S9) := by
  have h0 : ewM k L ⟨B, 0, false⟩ = (fun (h : (Int × List Mv × List Scr) × Rs) => (⟨h.1.1, h.1.2.1, h.1.2.2, (lsM L shM h.2).1, (lsM L pkM (lsM L shM h.2).2).1, (inM (lsM L pkM (lsM L shM h.2).2).2).1⟩, (inM (lsM L pkM (lsM L shM h.2).2).2).2)) (hdM k ⟨B, 0, false⟩) := rfl
  have h1 : lsM L shM S4 = (hs, S6) := by
   show maM shM (unM S4).1 (gM L (unM S4).1 (unM S4).2).2 = _
   rw [e5]; dsimp only; rw [e5g, e6]
  have h2 : lsM L pkM S6 = (ks, S8) := by
   show maM pkM (unM S6).1 (gM L (unM S6).1 (unM S6).2).2 = _
   rw [e7]; dsimp only; rw [e7g, e8]
  rw [h0, eh]; dsimp only; rw [h1]; dsimp only; rw [h2]; dsimp only; rw [e9]
 have b9 : S8.bad -> S9.bad := fun h => by have := par_in.bad S8 h; rw [e9] at this; exact this
 have b8 : S7g.bad -> S9.bad := fun h => b9 (by have := (par_ma par_pk m).bad S7g h; rw [e8] at this; exact this)
 have b7 : S7.bad -> S9.bad := fun h => b8 (by have := gM_bad (L := L) (n := m) h; rw [e7g] at this; exact this)
 have b6 : S6.bad -> S9.bad := fun h => b7 (by have := par_un.bad S6 h; rw [e7] at this; exact this)
 have b5g : S5g.bad -> S9.bad := fun h => b6 (by have := (par_ma par_sh n).bad S5g h; rw [e6] at this; exact this)
 have b5 : S5.bad -> S9.bad := fun h => b5g (by have := gM_bad (L := L) (n := n) h; rw [e5g] at this; exact this)
 have b4 : S4.bad -> S9.bad := fun h => b5 (by have := par_un.bad S4 h; rw [e5] at this; exact this)
 have hno : S9.bad -> saysW k B = none := fun h => by
  cases hs' : saysW k B with
  | none => rfl
  | some d =>
   have h2 := (saysW_yes (par_ew k L) hs').2
   rw [hall] at h2
   simp only [Bool.and_eq_true, Bool.not_eq_true'] at h2
   rcases h with h | h
   ·exact absurd (doB_iff.1 h2.2).1 h
   ·rw [h2.1] at h; cases h
 refine ⟨f, ms, cs, S4, n, S5, S5g, hs, S6, m, S7, S7g, ks, S8, nx, S9, eh, e5, by rw [<- e5g]; exact ⟨rfl, rfl⟩, e6, e7, by rw [<- e7g]; exact ⟨rfl, rfl⟩, e8, ?_, fun h => hno (b4 (.inr h)), fun h hL hl => hno (b5g (.inr ?_)), fun h hL hl => hno (b8 (.inr ?_)), fun h => ?_, fun h1 h2 h3 hL h4 => ?_⟩
 ·show ([(inM S8).1], (inM S8).2) = _
  rw [e9]
 ·rw [<- e5g]
  simp only [gM, Bool.or_eq_true, Bool.not_eq_true', decide_eq_false_iff_not]
  right
  omega
 ·rw [<- e7g]
  simp only [gM, Bool.or_eq_true, Bool.not_eq_true', decide_eq_false_iff_not]
  right
  omega
 ·cases hs' : saysW k B with
  | none => rfl
  | some d =>
   have h2 := (saysW_yes (par_ew k L) hs').2
   rw [hall] at h2
   simp only [Bool.and_eq_true, Bool.not_eq_true'] at h2
   have h3 := h2.2
   unfold doB at h3
   rw [decide_eq_true_iff] at h3
   exact absurd h3 h
 ·have y5 : S5.y = false := by
   have : S5.y = S4.y := by rw [show S5 = (unM S4).2 by rw [e5]]; rfl
   rw [this, h1]
  have y5g : S5g.y = false := by
   rw [<- e5g]
   simp only [gM, y5, Bool.false_or, Bool.not_eq_false', decide_eq_true_eq]
   omega
  have y6 : S6.y = false := by rw [show S6 = (maM shM n S5g).2 by rw [e6], sh_y, y5g]
  have y7 : S7.y = false := by
   have : S7.y = S6.y := by rw [show S7 = (unM S6).2 by rw [e7]]; rfl
   rw [this, y6]
  have y7g : S7g.y = false := by
   rw [<- e7g]
   simp only [gM, y7, Bool.false_or, Bool.not_eq_false', decide_eq_true_eq]
   omega
  have y8 : S8.y = false := by rw [show S8 = (maM pkM m S7g).2 by rw [e8], pk_y, y7g]
  have y9 : S9.y = false := by
   have : S9.y = S8.y := by rw [show S9 = (inM S8).2 by rw [e9]]; rfl
   rw [this, y8]
  cases hs' : saysW k B with
  | none =>
   have h5 := saysW_no (par_ew k L) hs'
   rw [hall] at h5
   dsimp only at h5
   rw [y9] at h5
   simp only [Bool.not_false, Bool.true_and] at h5
   unfold doB at h5
   rw [decide_eq_false_iff_not] at h5
   exact absurd h4 h5
  | some d =>
   have h5 := (saysW_yes (par_ew k L) hs').1
   rw [hall] at h5
   exact congrArg some h5.symm
end Go.Proofs.YtkgbmefaphhcnaaGreatDoor
namespace Go.Proofs.YtkgbmefaphhcnaaGreatDoor
open Go.RowKit
open Pu Gp Ap Vp Np Za Ka Ja Ea Ha Hi Wp
set_option maxRecDepth 100000
set_option linter.unusedVariables false
set_option linter.unusedSimpArgs false
theorem str_f14 {x y : ByteArray} (h : ¬ x = y) : (x.toList == y.toList) = false := by
 cases e : (x.toList == y.toList) with
 | false => rfl
 | true =>
  have := eq_of_beq e
  rw [Lib.toList_data, Lib.toList_data] at this
  exact absurd (ByteArray.ext (Array.toList_inj.1 this)) h
theorem Bdc.thru {w w2 u : World} {g p : Nat} {cs : Array Value} (h : Bdc w w2 g cs) (hf : Fr (fun k => k = p) w2 u) (hp : g + 1 < p) : Bdc w u g cs :=
 ⟨hf.kept h.c (by omega), hf.kept h.r (by omega), Fr.trans h.s hf (fun k hk e => by have := h.g; omega), h.g⟩
theorem fnew14_any (so : Option Addr) (n c : Nat) (bs : List UInt8) (w : World) (hr : Rd w so n c bs) (h47 : n <= 140737488355328) :
  Calls Tryz.prog 50 #[.slice so n c] w fun r w' => ∃ p, r = .returned (.pointer (some ⟨p, 0, none⟩)) /\ w.heap.size <= p /\ Dq w' p n ⟨bs, 0, false⟩ /\ Still w w' := by
 obtain ⟨i0, hi, hz, hs1, hb1⟩ := info_parts info_u8
 have hl := hid hr.len
 go_enter Tryz.func50, Tryz.ntmps50
 go_wp2_with (at_builtin; refine wpList_app _ rfl _ _ 38 rfl 5 i0 Tryz.underlying38 hi hz hs1 hb1 none so 0 0 n c [] bs rfl rfl (Ow.empty _ _) hr (by omega) ?_; intro ao' cap' w1 ho' hf' hn' _)
 go_ret
 have hst : Still w w1 := hf'.mono (by rintro k hk ⟨a, h, _⟩; cases h)
 rw [Nat.zero_add, List.nil_append] at ho'
 have hub : Ub (w1.alloc (.cells #[.slice ao' n cap', .int .i64 0, .int .i64 0] 121)) ao' := fun a ha => by
  obtain ⟨_, _, cur, hc, _⟩ := ho'.row a ha
  exact ⟨cur, (Still.alloc w1 _).kept_still hc⟩
 have hrf : Rf (w1.alloc (.cells #[.slice ao' n cap', .int .i64 0, .int .i64 0] 121)) w1.heap.size ao' n cap' bs 0 0 := ⟨heap_alloc_new w1 _, ho'.rd.alloc _, Nat.zero_le _⟩
 have hdq : Dq (w1.alloc (.cells #[.slice ao' n cap', .int .i64 0, .int .i64 0] 121)) w1.heap.size n ⟨bs, 0, false⟩ := ⟨ao', n, cap', bs, 0, hrf, rfl, hl.out, hub⟩
 exact ⟨w1.heap.size, rfl, hst.size, hdq, Fr.alloc hst _⟩
set_option maxHeartbeats 8000000 in
theorem rdec14_cfg (k : Int) (q : Nat) (C R : Int) (s : ByteArray) (lo : Option Addr) (ln lc : Nat) (ao : Option Addr) (n cap : Nat) (x : Int) (hx : x ≠ 0) (w : World)
  (hcc : ∀ u, Still w u -> Calls Tryz.prog 43 #[.agg (cfcs k q C R s lo ln lc)] u fun e w' => e = .returned (.int .i64 x) /\ Still u w') :
  Calls Tryz.prog 20 #[.agg (cfcs k q C R s lo ln lc), .slice ao n cap] w fun e w' => ∃ v, e = .returned (.tuple #[v, .int .i64 x]) /\ OwW w' w.heap.size v zW /\ Still w w' := by
 have hx' := chain0 hx
 have B0 := Bdc.new w (cfcs k q C R s lo ln lc)
 obtain ⟨U, eU⟩ : ∃ U, (w.alloc (.cells (cfcs k q C R s lo ln lc) 37)).alloc (.cells zcs 27) = U := ⟨_, rfl⟩
 obtain ⟨g, eg⟩ : ∃ g, w.heap.size = g := ⟨_, rfl⟩
 rw [eU] at B0
 have HC := hid (hcc U B0.s)
 have HW : Hid (w.heap.size = g) := hid eg
 rw [eg] at B0
 have HB := hid B0
 have d0 := cell_of_row _ _ 0 _ _ _ B0.c
 have d1 := cell_of_row _ _ 1 _ _ _ B0.c
 have d2 := cell_of_row _ _ 2 _ _ _ B0.c
 have d3 := cell_of_row _ _ 3 _ _ _ B0.c
 have d4 := cell_of_row _ _ 4 _ _ _ B0.c
 have d5 := cell_of_row _ _ 5 _ _ _ B0.c
 simp only [List.getElem?_toArray, List.getElem?_cons_zero, List.getElem?_cons_succ] at d0 d1 d2 d3 d4 d5
 clear B0 hcc
 go_enter Tryz.func20, Tryz.ntmps20
 go_wp2_with fail
 refine HC.out.mono ?_
 rintro e w1 ⟨he, h1⟩
 rw [he]
 have HB1 := hid (HB.out.still h1)
 clear he h1 HC HB d0 d1 d2 d3 d4 d5 eU
 obtain ⟨c0, c1, c2, c3, c4, c5, cf⟩ := HB1.out.r.cells
 have f0 := cf 0
 have f1 := cf 1
 have f2 := cf 2
 have f3 := cf 3
 have f4 := cf 4
 have f5 := cf 5
 go_wp2_with fail
 refine bodyPost_ret (Wdb.res2 (HB1.out.r.put 0 0 (.slice none 0 0) (.slice none 0 0) (.slice none 0 0) (.slice none 0 0)) rfl _ _ rfl rfl) rfl ⟨_, rfl, OwW.zero _ _, HB1.out.put 0 0 _ _ _ _⟩
theorem shM_parts (s : Rs) : ∃ x0 x1 x2 x3 x4 x5 x6 x7 S, maM inM 8 s = ([x0, x1, x2, x3, x4, x5, x6, x7], S) /\ shM s = (⟨x0, x1, x2, x3, x4, x5, x6, x7⟩, S) := ⟨_, _, _, _, _, _, _, _, _, rfl, rfl⟩
theorem pkM_parts (s : Rs) : ∃ x0 x1 x2 S, maM inM 3 s = ([x0, x1, x2], S) /\ pkM s = (⟨x0, x1, x2⟩, S) := ⟨_, _, _, _, rfl, rfl⟩
set_option maxHeartbeats 32000000 in
theorem rdec14_any (k : Nat) (hk : k <= 100) (q : Nat) (C R : Int) (s : ByteArray) (lo : Option Addr) (ln lc : Nat) (ao : Option Addr) (n cap : Nat) (bs : List UInt8) (x : Wd -> Int) (w : World) (hr : Rd w ao n cap bs) (hn : n <= 2000000)
  (hcc : ∀ u, Still w u -> Calls Tryz.prog 43 #[.agg (cfcs (k : Int) q C R s lo ln lc)] u fun e w' => e = .returned (.int .i64 0) /\ Still u w')
  (hck : ∀ u v X, Still w u -> OwW u w.heap.size v X -> saysW k (bs.take (n - 8)) = some X -> Calls Tryz.prog 34 #[.agg (cfcs (k : Int) q C R s lo ln lc), v] u fun e w' => e = .returned (.int .i64 (x X)) /\ Still u w') :
  Calls Tryz.prog 20 #[.agg (cfcs (k : Int) q C R s lo ln lc), .slice ao n cap] w fun e w' => ∃ v, e = .returned (.tuple #[v, .int .i64 (decW k bs x).2]) /\ OwW w' w.heap.size v (decW k bs x).1 /\ Still w w' := by
 have hln := hr.len
 have hcap := hr.le
 have B0 := Bdc.new w (cfcs (k : Int) q C R s lo ln lc)
 obtain ⟨U, eU⟩ : ∃ U, (w.alloc (.cells (cfcs (k : Int) q C R s lo ln lc) 37)).alloc (.cells zcs 27) = U := ⟨_, rfl⟩
 obtain ⟨g, eg⟩ : ∃ g, w.heap.size = g := ⟨_, rfl⟩
 rw [eU] at B0
 have HC := hid (hcc U B0.s)
 have HK := hid hck
 have HGg : Hid (w.heap.size = g) := hid eg
 rw [eg] at B0
 have HB := hid B0
 have d0 := cell_of_row _ _ 0 _ _ _ B0.c
 have d1 := cell_of_row _ _ 1 _ _ _ B0.c
 have d2 := cell_of_row _ _ 2 _ _ _ B0.c
 have d3 := cell_of_row _ _ 3 _ _ _ B0.c
 have d4 := cell_of_row _ _ 4 _ _ _ B0.c
 have d5 := cell_of_row _ _ 5 _ _ _ B0.c
 simp only [List.getElem?_toArray, List.getElem?_cons_zero, List.getElem?_cons_succ] at d0 d1 d2 d3 d4 d5
 clear B0 hcc hck
 by_cases h8 : n < 8
 ·have HDc : Hid (decW k bs x = (zW, 140)) := hid (by unfold decW; rw [if_pos (by omega)])
  have h8' : (n : Int) < 8 := by omega
  clear hr HK
  go_enter Tryz.func20, Tryz.ntmps20
  go_wp2_with fail
  refine HC.out.mono ?_
  rintro e w1 ⟨he, h1⟩
  rw [he]
  have HB1 := hid (HB.out.still h1)
  clear he h1 HC HB d0 d1 d2 d3 d4 d5 eU
  obtain ⟨r0, r1, r2, r3, r4, r5, rf⟩ := HB1.out.r.cells
  have f0 := rf 0
  have f1 := rf 1
  have f2 := rf 2
  have f3 := rf 3
  have f4 := rf 4
  have f5 := rf 5
  go_wp2_with fail
  exact bodyPost_ret (Wdb.res2 (HB1.out.r.put 0 0 (.slice none 0 0) (.slice none 0 0) (.slice none 0 0) (.slice none 0 0)) rfl _ _ rfl rfl) rfl ⟨_, by rw [HDc.out]; rfl, by rw [HDc.out]; exact OwW.zero _ _, HB1.out.put 0 0 _ _ _ _⟩
 ·obtain ⟨i0, hi0, hz0, hs10, hb10⟩ := info_parts info_u8
  have h8' : ¬ (n : Int) < 8 := by omega
  have hwn : IntKind.i64.wrap ((n : Int) - 8) = (n : Int) - 8 := by rw [IntKind.wrap_i64]; omega
  obtain ⟨L, rfl⟩ : ∃ L, n = L + 8 := ⟨n - 8, by omega⟩
  have hsu : ∀ W' : World, (Instr.slice 38 (.slice ao (L + 8) cap) none (some (.int .i64 (L : Int))) none).run Tryz.prog W' = .ok (.slice ao L cap) W' := fun W' => by
   have := run_upto (P := Tryz.prog) W' 38 5 i0 Tryz.underlying38 hi0 hs10 .i64 ao (L + 8) cap (L : Int) (by omega) (by omega)
   rw [this, Int.toNat_natCast]
  have hsf : ∀ W' : World, (Instr.slice 38 (.slice ao (L + 8) cap) (some (.int .i64 (L : Int))) none none).run Tryz.prog W' = .ok (.slice (cutAt ao cap L) 8 (cap - L)) W' := fun W' => by
   have := run_from (P := Tryz.prog) W' 38 5 i0 Tryz.underlying38 hi0 hs10 .i64 ao (L + 8) cap (L : Int) (by omega) (by omega)
   rw [this, Int.toNat_natCast, show L + 8 - L = 8 by omega]
  have HRa : Hid (∀ u, Still w u -> Rd u ao L cap (bs.take L)) := hid (fun u hu => (hr.take (by omega)).still hu)
  have HRt : Hid (∀ u, Still w u -> Rd u (cutAt ao cap L) 8 (cap - L) (bs.drop L)) := hid (fun u hu => by
   have := (hr.drop (i := L) (by omega)).still hu
   rwa [show L + 8 - L = 8 by omega] at this)
  have hbl : (bs.take L).length = L := by rw [List.length_take]; omega
  have HDe : Hid (decW k bs x = match saysW k (bs.take L) with | none => (zW, 140) | some X => if bs.drop L = sumB (bs.take L) then (if x X = 0 then (X, 0) else (zW, x X)) else (zW, 141)) := hid (by
   unfold decW
   rw [if_neg (by omega), hln, show L + 8 - 8 = L by omega]
   all_goals (cases saysW k (bs.take L) <;> rfl))
  rw [show L + 8 - 8 = L by omega] at HK
  obtain ⟨bt, ebt⟩ : ∃ x, bs.take L = x := ⟨_, rfl⟩
  obtain ⟨bd, ebd⟩ : ∃ x, bs.drop L = x := ⟨_, rfl⟩
  rw [ebt] at HRa HK HDe hbl
  rw [ebd] at HRt HDe
  obtain ⟨f, ms, cs, S4, n1, S5, S5g, hs, S6, m1, S7, S7g, ks, S8, nx, S9, hE⟩ := ew_any k L bt
  have HE := hid hE
  have HBl := hid hbl
  have hwL : ((L + 8 : Nat) : Int) - 8 = (L : Int) := by omega
  have hL2 : L <= 2000000 := by omega
  have HL2 := hid hL2
  clear hr ebt ebd hE hbl hln hcap h8 hz0 hb10
  go_enter Tryz.func20, Tryz.ntmps20
  go_wp2_with fail
  refine HC.out.mono ?_
  rintro e w1 ⟨he, h1⟩
  rw [he]
  have HB1 := hid (HB.out.still h1)
  clear he h1 HC HB d0 d1 d2 d3 d4 d5 eU
  go_wp2_with fail
  refine (fnew14_any ao L cap bt w1 (HRa.out w1 HB1.out.s) (by have := HL2.out; omega)).mono ?_
  rintro e w2 ⟨p, he, hp, hq, h2⟩
  rw [he]
  have HB2 := hid (HB1.out.still h2)
  have HQ2 := hid hq
  have HP : Hid (g + 1 < p) := hid (by have := block_lt HB1.out.r; omega)
  have c00 := cell_of_row _ _ 0 _ _ _ HB2.out.c
  simp only [List.getElem?_toArray, List.getElem?_cons_zero, List.getElem?_cons_succ] at c00
  clear he hp hq h2 HB1
  go_wp2_with fail
  clear c00
  have HH := hid (rheads_any p L k hk ⟨bt, 0, false⟩ rfl w2 HQ2.out)
  rw [HE.out.hd] at HH
  dsimp only at HH
  refine HH.out.mono ?_
  rintro e w3 ⟨va, vb, he, oa, ob, h3⟩
  obtain ⟨am, cam, rfl, _⟩ := oa.slice
  obtain ⟨az, caz, rfl, _⟩ := ob.slice
  rw [he]
  obtain ⟨nm, enm⟩ : ∃ n, ms.length = n := ⟨_, rfl⟩
  obtain ⟨ns, ens⟩ : ∃ n, cs.length = n := ⟨_, rfl⟩
  rw [enm] at oa ⊢
  rw [ens] at ob ⊢
  have A3 := Still.alloc w3 (.cells (wdcs f 0 (.slice am nm cam) (.slice az ns caz) (.slice none 0 0) (.slice none 0 0)) 27)
  have p3 := newWd_wb w3 f 0 (.slice am nm cam) (.slice az ns caz) (.slice none 0 0) (.slice none 0 0)
  unfold newWd at p3
  have HG3 : Hid (Gz w2 (w3.alloc (.cells (wdcs f 0 (.slice am nm cam) (.slice az ns caz) (.slice none 0 0) (.slice none 0 0)) 27)) p L w3.heap.size S4 f 0 (.slice am nm cam) (.slice az ns caz) (.slice none 0 0) (.slice none 0 0) ms cs [] []) := hid ⟨oa.still A3, ob.still A3, OwG.nil _ _, OwG.nil _ _, p3, h3.r.still A3, h3.f.trans A3 (fun _ _ e => e.elim), HQ2.out.lt, h3.f.size⟩
  have HNm := hid (And.intro enm ens)
  obtain ⟨W3, eW3⟩ : ∃ X, w3.alloc (.cells (wdcs f 0 (.slice am nm cam) (.slice az ns caz) (.slice none 0 0) (.slice none 0 0)) 27) = X := ⟨_, rfl⟩
  obtain ⟨gw, egw⟩ : ∃ X, w3.heap.size = X := ⟨_, rfl⟩
  rw [eW3, egw] at HG3
  have HU1 := hid (duint_any p L S4 W3 HG3.out.r)
  rw [HE.out.u1] at HU1
  dsimp only at HU1
  obtain ⟨gd, egd⟩ : ∃ b, (!S4.y) = b := ⟨_, rfl⟩
  rw [egd]
  have HGd : Hid ((!S4.y) = gd) := hid egd
  have HEw := hid eW3
  have HEg := hid egw
  clear he oa ob h3 A3 p3 HH enm ens HQ2 egd eW3 egw
  go_wp2_with fail
  rw [HEw.out, HEg.out]
  refine HU1.out.mono ?_
  rintro e w4 ⟨he, h4⟩
  rw [he]
  have HG4 := hid ((HG3.out.read h4).like HE.out.g1.1 HE.out.g1.2)
  have HLe4 : Hid (S5.bs.length <= L) := hid h4.r.len
  have HB4 := hid (HB2.out.thru HG4.out.f HP.out)
  have hcu : IntKind.u64.wrap (L : Int) = (L : Int) := by rw [IntKind.wrap_u64]; omega
  clear he h4 HG3 HU1
  cases gd
  case false =>
   have HDc : Hid (decW k bs x = (zW, 140)) := hid (by rw [HDe.out, HE.out.no1 (by simpa using HGd.out)])
   obtain ⟨r0, r1, r2, r3, r4, r5, rf⟩ := HB4.out.r.cells
   have f0 := rf 0
   have f1 := rf 1
   have f2 := rf 2
   have f3 := rf 3
   have f4 := rf 4
   have f5 := rf 5
   go_wp2_with fail
   exact bodyPost_ret (Wdb.res2 (HB4.out.r.put 0 0 (.slice none 0 0) (.slice none 0 0) (.slice none 0 0) (.slice none 0 0)) rfl _ _ rfl rfl) rfl ⟨_, by rw [HDc.out]; rfl, by rw [HDc.out]; exact OwW.zero _ _, HB4.out.put 0 0 _ _ _ _⟩
  by_cases hn1 : L < n1
  ·have HDc : Hid (decW k bs x = (zW, 140)) := hid (by rw [HDe.out, HE.out.no2 hn1 (by omega) HLe4.out])
   have t1 : (L : Int) < (n1 : Int) := by omega
   obtain ⟨r0, r1, r2, r3, r4, r5, rf⟩ := HB4.out.r.cells
   have f0 := rf 0
   have f1 := rf 1
   have f2 := rf 2
   have f3 := rf 3
   have f4 := rf 4
   have f5 := rf 5
   go_wp2_with fail
   exact bodyPost_ret (Wdb.res2 (HB4.out.r.put 0 0 (.slice none 0 0) (.slice none 0 0) (.slice none 0 0) (.slice none 0 0)) rfl _ _ rfl rfl) rfl ⟨_, by rw [HDc.out]; rfl, by rw [HDc.out]; exact OwW.zero _ _, HB4.out.put 0 0 _ _ _ _⟩
  have t1 : ¬ (L : Int) < (n1 : Int) := by omega
  have hcv1 : IntKind.i64.wrap (n1 : Int) = (n1 : Int) := by rw [IntKind.wrap_i64]; omega
  clear HB4
  go_wp2_with fail
  clear t1
  go_loopw [12] (fun uu wr => ∃ (i : Nat) (l : List Sh) (v : Value) (s1 : Rs), i <= n1 /\ uu = .int .i64 (i : Int) /\ Hid (l.length = i /\ maM shM n1 S5g = (l ++ (maM shM (n1 - i) s1).1, (maM shM (n1 - i) s1).2) /\ Gz w2 wr p L gw s1 f 0 (.slice am nm cam) (.slice az ns caz) v (.slice none 0 0) ms cs l [])) (fun uu _ => n1 - (intOf uu).toNat)
  case atStart => exact ⟨0, [], (.slice none 0 0), S5g, by omega, rfl, hid ⟨rfl, rfl, HG4.out⟩⟩
  case round =>
   clear HG4
   obtain ⟨i, l, v, s1, hi, rfl, HI⟩ := hrel
   by_cases hin : i < n1
   ·have hlt : (i : Int) < (n1 : Int) := by omega
    have HF := hid (maM_step hin HI.out.2.1)
    obtain ⟨x0, x1, x2, x3, x4, x5, x6, x7, S, q1, q2⟩ := shM_parts s1
    have HCt := hid (rtaken_any p L 8 (by omega) s1 wr HI.out.2.2.r)
    rw [q2] at HF
    rw [q1, show ((8 : Nat) : Int) = 8 from rfl] at HCt
    dsimp only at HF HCt
    obtain ⟨vo, vc, rfl, _⟩ := HI.out.2.2.oc.slice
    clear q1 q2
    go_wp2_with fail
    refine HCt.out.mono ?_
    rintro e w5 ⟨ro, rc, he, hro, hrf, h5⟩
    rw [he]
    obtain ⟨gb, egb⟩ := hro.head (by omega)
    subst egb
    have HG5 := hid (HI.out.2.2.read h5)
    have HO5 := hid hro
    obtain ⟨nl, enl⟩ : ∃ n, l.length = n := ⟨_, rfl⟩
    have HLn : Hid (l.length = nl /\ nl = i) := hid ⟨enl, by rw [<- enl]; exact HI.out.1⟩
    rw [enl] at HG5
    have HZ5 : Hid (w2.heap.size <= w5.heap.size) := hid HG5.out.f.size
    clear he hro hrf h5 HCt HI enl
    go_upto_region 16 with fail
    refine region_laid 29 1 (by kernel_rfl) (by kernel_rfl) (by kernel_rfl) ?_
    apply Exists.intro
    refine And.intro ?_ (And.intro ?_ ?_)
    ·intro u hu
     have hrd := (HO5.out.still hu).rd
     have hrl := hrd.len
     have k0 := Cl.cell (hrd.byte (k := 0) (by rw [hrl]; omega))
     have k1 := Cl.cell (hrd.byte (k := 1) (by rw [hrl]; omega))
     have k2 := Cl.cell (hrd.byte (k := 2) (by rw [hrl]; omega))
     have k3 := Cl.cell (hrd.byte (k := 3) (by rw [hrl]; omega))
     have k4 := Cl.cell (hrd.byte (k := 4) (by rw [hrl]; omega))
     have k5 := Cl.cell (hrd.byte (k := 5) (by rw [hrl]; omega))
     have k6 := Cl.cell (hrd.byte (k := 6) (by rw [hrl]; omega))
     have k7 := Cl.cell (hrd.byte (k := 7) (by rw [hrl]; omega))
     simp only [List.getElem_cons_zero, List.getElem_cons_succ, Nat.zero_add, Nat.add_zero] at k0 k1 k2 k3 k4 k5 k6 k7
     obtain ⟨c0, c1, c2, c3, c4, c5, cf⟩ := (HG5.out.still hu).wb.cells
     have kz := Cl.cell c3
     have hne := Aft.here u
     clear hrd hrl c0 c1 c2 c3 c4 c5 cf
     simp only [List.take_succ_cons, List.take_zero]
     repeat (go_big_quiet_step (fail))
     exact wpQuiet_nil rfl
    ·intro _ o ho u hu
     obtain rfl := Option.some.inj ho
     exact ⟨_, _, bs_sv (s := ⟨x0, x1, x2, x3, x4, x5, x6, x7⟩) rfl rfl u, Still.alloc u _⟩
    intro w6 h6
    simp only [List.drop_succ_cons, List.drop_zero]
    have HG6 := hid (HG5.out.still h6)
    have HZ6 : Hid (w2.heap.size <= w6.heap.size) := hid HG6.out.f.size
    clear h6 HG5 HO5 HZ5
    go_wp2_with (
     at_builtin
     refine wpList_appH KS _ rfl _ _ 24 rfl Tryz.underlying24 64 infoS w2.heap.size w6.heap.size _ l (⟨x0, x1, x2, x3, x4, x5, x6, x7⟩ : Sh) rfl rfl (HG6.out.oc.still (Still.alloc w6 _)) (heap_alloc_new w6 _) (by have := HLn.out; have := HL2.out; omega) (by have := HLn.out; have := HL2.out; omega) (by rw [size_alloc]; have := HZ6.out; omega) ?_
     intro v' v0 ho hf
     obtain ⟨gn, cn, rfl, _, _⟩ := ho.head (by simp)
     obtain ⟨hA, hW⟩ := HG6.out.app3 ho hf
     rw [show (l ++ [(⟨x0, x1, x2, x3, x4, x5, x6, x7⟩ : Sh)]).length = l.length + 1 by simp] at hA
     obtain ⟨c0, c1, c2, c3, c4, c5, cf⟩ := hW.cells
     have HA := hid hA
     clear ho hf hA hW)
    refine ⟨rfl, ?_⟩
    go_wp2_with fail
    go_roundw
    case rel => exact ⟨i + 1, l ++ [(⟨x0, x1, x2, x3, x4, x5, x6, x7⟩ : Sh)], .slice (some ⟨gn, 0, none⟩) (l.length + 1) cn, S, by omega, by go_num, hid ⟨by have := HLn.out; simp; omega, HF.out, HA.out⟩⟩
    case measure => simp [intOf]; omega
   have hie : i = n1 := by omega
   obtain ⟨hll, hmm, hG⟩ := HI.out
   rw [hie] at hmm
   have hmm2 := maM_end hmm
   rw [HE.out.l1] at hmm2
   injection hmm2 with hm1 hm2
   subst hm1 hm2
   have hge : ¬ (i : Int) < (n1 : Int) := by omega
   obtain ⟨vo, vc, rfl, _⟩ := hG.oc.slice
   have HG7 := hid hG
   obtain ⟨nh, enh⟩ : ∃ n, hs.length = n := ⟨_, rfl⟩
   rw [enh] at HG7
   have HNh := hid enh
   have HU2 := hid (duint_any p L S6 wr HG7.out.r)
   rw [HE.out.u2] at HU2
   dsimp only at HU2
   clear HI hll hmm hG hi hin hie enh
   go_wp2_with fail
   refine HU2.out.mono ?_
   rintro e w8 ⟨he, h8⟩
   rw [he]
   have HG8 := hid ((HG7.out.read h8).like HE.out.g2.1 HE.out.g2.2)
   have HLe8 : Hid (S7.bs.length <= L) := hid h8.r.len
   have HB8 := hid (HB2.out.thru HG8.out.f HP.out)
   clear he h8 HG7 HU2 hge
   by_cases hm1 : L < m1
   ·have HDc : Hid (decW k bs x = (zW, 140)) := hid (by rw [HDe.out, HE.out.no3 hm1 (by omega) HLe8.out])
    have t1 : (L : Int) < (m1 : Int) := by omega
    obtain ⟨r0, r1, r2, r3, r4, r5, rf⟩ := HB8.out.r.cells
    have f0 := rf 0
    have f1 := rf 1
    have f2 := rf 2
    have f3 := rf 3
    have f4 := rf 4
    have f5 := rf 5
    go_wp2_with fail
    exact bodyPost_ret (Wdb.res2 (HB8.out.r.put 0 0 (.slice none 0 0) (.slice none 0 0) (.slice none 0 0) (.slice none 0 0)) rfl _ _ rfl rfl) rfl ⟨_, by rw [HDc.out]; rfl, by rw [HDc.out]; exact OwW.zero _ _, HB8.out.put 0 0 _ _ _ _⟩
   have t1 : ¬ (L : Int) < (m1 : Int) := by omega
   have hcv2 : IntKind.i64.wrap (m1 : Int) = (m1 : Int) := by rw [IntKind.wrap_i64]; omega
   clear HB8
   go_wp2_with fail
   clear t1
   go_loopw [14] (fun uu wr => ∃ (i : Nat) (l : List Pk) (v : Value) (s1 : Rs), i <= m1 /\ uu = .int .i64 (i : Int) /\ Hid (l.length = i /\ maM pkM m1 S7g = (l ++ (maM pkM (m1 - i) s1).1, (maM pkM (m1 - i) s1).2) /\ Gz w2 wr p L gw s1 f 0 (.slice am nm cam) (.slice az ns caz) (.slice vo nh vc) v ms cs hs l)) (fun uu _ => m1 - (intOf uu).toNat)
   case atStart => exact ⟨0, [], (.slice none 0 0), S7g, by omega, rfl, hid ⟨rfl, rfl, HG8.out⟩⟩
   case round =>
    clear HG8
    obtain ⟨i, l, v, s1, hi, rfl, HI⟩ := hrel
    by_cases hin : i < m1
    ·have hlt : (i : Int) < (m1 : Int) := by omega
     have HF := hid (maM_step hin HI.out.2.1)
     obtain ⟨x0, x1, x2, S, q1, q2⟩ := pkM_parts s1
     have HCt := hid (rtaken_any p L 3 (by omega) s1 wr HI.out.2.2.r)
     rw [q2] at HF
     rw [q1, show ((3 : Nat) : Int) = 3 from rfl] at HCt
     dsimp only at HF HCt
     obtain ⟨vo, vc, rfl, _⟩ := HI.out.2.2.od.slice
     clear q1 q2
     go_wp2_with fail
     refine HCt.out.mono ?_
     rintro e w5 ⟨ro, rc, he, hro, hrf, h5⟩
     rw [he]
     obtain ⟨gb, egb⟩ := hro.head (by omega)
     subst egb
     have HG5 := hid (HI.out.2.2.read h5)
     have HO5 := hid hro
     obtain ⟨nl, enl⟩ : ∃ n, l.length = n := ⟨_, rfl⟩
     have HLn : Hid (l.length = nl /\ nl = i) := hid ⟨enl, by rw [<- enl]; exact HI.out.1⟩
     rw [enl] at HG5
     have HZ5 : Hid (w2.heap.size <= w5.heap.size) := hid HG5.out.f.size
     clear he hro hrf h5 HCt HI enl
     go_upto_region 24 with fail
     refine region_laid 12 1 (by kernel_rfl) (by kernel_rfl) (by kernel_rfl) ?_
     apply Exists.intro
     refine And.intro ?_ (And.intro ?_ ?_)
     ·intro u hu
      have hrd := (HO5.out.still hu).rd
      have hrl := hrd.len
      have k0 := Cl.cell (hrd.byte (k := 0) (by rw [hrl]; omega))
      have k1 := Cl.cell (hrd.byte (k := 1) (by rw [hrl]; omega))
      have k2 := Cl.cell (hrd.byte (k := 2) (by rw [hrl]; omega))
      simp only [List.getElem_cons_zero, List.getElem_cons_succ, Nat.zero_add, Nat.add_zero] at k0 k1 k2
      obtain ⟨c0, c1, c2, c3, c4, c5, cf⟩ := (HG5.out.still hu).wb.cells
      have kz := Cl.cell c4
      have hne := Aft.here u
      clear hrd hrl c0 c1 c2 c3 c4 c5 cf
      simp only [List.take_succ_cons, List.take_zero]
      repeat (go_big_quiet_step (fail))
      exact wpQuiet_nil rfl
     ·intro _ o ho u hu
      obtain rfl := Option.some.inj ho
      exact ⟨_, _, bs_kv (s := ⟨x0, x1, x2⟩) rfl rfl u, Still.alloc u _⟩
     intro w6 h6
     simp only [List.drop_succ_cons, List.drop_zero]
     have HG6 := hid (HG5.out.still h6)
     have HZ6 : Hid (w2.heap.size <= w6.heap.size) := hid HG6.out.f.size
     clear h6 HG5 HO5 HZ5
     go_wp2_with (
      at_builtin
      refine wpList_appH KQ _ rfl _ _ 25 rfl Tryz.underlying25 24 infoQ w2.heap.size w6.heap.size _ l (⟨x0, x1, x2⟩ : Pk) rfl rfl (HG6.out.od.still (Still.alloc w6 _)) (heap_alloc_new w6 _) (by have := HLn.out; have := HL2.out; omega) (by have := HLn.out; have := HL2.out; omega) (by rw [size_alloc]; have := HZ6.out; omega) ?_
      intro v' v0 ho hf
      obtain ⟨gn, cn, rfl, _, _⟩ := ho.head (by simp)
      obtain ⟨hA, hW⟩ := HG6.out.app4 ho hf
      rw [show (l ++ [(⟨x0, x1, x2⟩ : Pk)]).length = l.length + 1 by simp] at hA
      obtain ⟨c0, c1, c2, c3, c4, c5, cf⟩ := hW.cells
      have HA := hid hA
      clear ho hf hA hW)
     refine ⟨rfl, ?_⟩
     go_wp2_with fail
     go_roundw
     case rel => exact ⟨i + 1, l ++ [(⟨x0, x1, x2⟩ : Pk)], .slice (some ⟨gn, 0, none⟩) (l.length + 1) cn, S, by omega, by go_num, hid ⟨by have := HLn.out; simp; omega, HF.out, HA.out⟩⟩
     case measure => simp [intOf]; omega
    have hie : i = m1 := by omega
    obtain ⟨hll, hmm, hG⟩ := HI.out
    rw [hie] at hmm
    have hmm2 := maM_end hmm
    rw [HE.out.l2] at hmm2
    injection hmm2 with hm1 hm2
    subst hm1 hm2
    have hge : ¬ (i : Int) < (m1 : Int) := by omega
    obtain ⟨vk, vl, rfl, _⟩ := hG.od.slice
    have HG9 := hid hG
    obtain ⟨nk, enk⟩ : ∃ n, ks.length = n := ⟨_, rfl⟩
    rw [enk] at HG9
    have HNk := hid enk
    have HT9 := hid (rtaken_any p L 1 (by omega) S8 wr HG9.out.r)
    rw [HE.out.tk, show ((1 : Nat) : Int) = 1 from rfl] at HT9
    dsimp only at HT9
    clear HI hll hmm hG hi hin hie enk
    go_wp2_with fail
    refine HT9.out.mono ?_
    rintro e w10 ⟨ro, rc, he, hro, hrf, h10⟩
    rw [he]
    obtain ⟨gb, egb⟩ := hro.head (by omega)
    subst egb
    have HG10 := hid (HG9.out.read h10)
    have k0 := hro.rd.byte (k := 0) (by simp)
    simp only [List.getElem_cons_zero, Nat.add_zero] at k0
    obtain ⟨c0, c1, c2, c3, c4, c5, cf⟩ := HG10.out.wb.cells
    have HG11 : Hid (Gz w2 (w10.setCell ⟨gw, 5, none⟩ (.int .i64 nx)) p L gw S9 f nx (.slice am nm cam) (.slice az ns caz) (.slice vo nh vc) (.slice vk nk vl) ms cs hs ks) := hid (HG10.out.set ((heap_setCell_same w10 gw 5 _ _ _ HG10.out.wb).trans (by kernel_rfl)))
    obtain ⟨W11, eW11⟩ : ∃ X, w10.setCell ⟨gw, 5, none⟩ (.int .i64 nx) = X := ⟨_, rfl⟩
    rw [eW11] at HG11
    have HDn := hid (ddone_any p L S9 W11 HG11.out.r)
    obtain ⟨dn, edn⟩ : ∃ d, (if S9.e = 0 /\ 0 < S9.bs.length then (23 : Int) else S9.e) = d := ⟨_, rfl⟩
    rw [edn] at HDn
    have HEd := hid edn
    clear he hro hrf h10 HT9 HG9 HG10 edn
    go_wp2_with fail
    clear eW11 k0 c0 c1 c2 c3 c4 c5 cf
    refine HDn.out.mono ?_
    rintro e w12 ⟨he, h12⟩
    rw [he]
    have HG12 := hid (HG11.out.still h12)
    have HB12 := hid (HB2.out.thru HG12.out.f HP.out)
    clear he h12 HG11 HDn
    by_cases hd : dn = 0
    case neg =>
     have HDc : Hid (decW k bs x = (zW, 140)) := hid (by rw [HDe.out, HE.out.no4 (by rw [HEd.out]; exact hd)])
     have t1 : (dn != 0) = true := by simpa using hd
     clear hd
     obtain ⟨r0, r1, r2, r3, r4, r5, rf⟩ := HB12.out.r.cells
     have f0 := rf 0
     have f1 := rf 1
     have f2 := rf 2
     have f3 := rf 3
     have f4 := rf 4
     have f5 := rf 5
     go_wp2_with fail
     exact bodyPost_ret (Wdb.res2 (HB12.out.r.put 0 0 (.slice none 0 0) (.slice none 0 0) (.slice none 0 0) (.slice none 0 0)) rfl _ _ rfl rfl) rfl ⟨_, by rw [HDc.out]; rfl, by rw [HDc.out]; exact OwW.zero _ _, HB12.out.put 0 0 _ _ _ _⟩
    subst hd
    have HSw : Hid (saysW k bt = some (⟨f, ms, cs, hs, ks, nx⟩ : Wd)) := hid (HE.out.yes (by have := HGd.out; simpa using this) (by omega) (by omega) (by omega) HEd.out)
    have HSm := hid (rsum_any ao L cap bt w12 (HRa.out w12 HB12.out.s))
    obtain ⟨sb, esb⟩ : ∃ q, sumB bt = q := ⟨_, rfl⟩
    rw [esb] at HSm HDe
    clear esb HE HEd
    go_wp2_with fail
    refine HSm.out.mono ?_
    rintro e w13 ⟨so, sc, he, ho, h13, _⟩
    rw [he]
    have HG13 := hid (HG12.out.still h13)
    have HB13 := hid (HB12.out.still h13)
    have s1 := fun m => run_string (P := Tryz.prog) (w13.drewN m) 38 5 9 Tryz.underlying38 Tryz.underlying5 Tryz.underlying9 (ho.rd.still ((Fr.refl _ w13).drewN m))
    have s2 := fun m => run_string (P := Tryz.prog) (w13.drewN m) 38 5 9 Tryz.underlying38 Tryz.underlying5 Tryz.underlying9 (HRt.out (w13.drewN m) (HB13.out.s.trans ((Fr.refl _ w13).drewN m)))
    obtain ⟨A1, eA1⟩ : ∃ B, (⟨sb.toArray⟩ : ByteArray) = B := ⟨_, rfl⟩
    obtain ⟨A2, eA2⟩ : ∃ B, (⟨bd.toArray⟩ : ByteArray) = B := ⟨_, rfl⟩
    rw [eA1] at s1
    rw [eA2] at s2
    clear he ho h13 HSm HG12 HB12
    by_cases hsum : bd = sb
    case neg =>
     have HDc : Hid (decW k bs x = (zW, 141)) := hid (by rw [HDe.out, HSw.out]; dsimp only; rw [if_neg hsum])
     have t1 : (A1.toList == A2.toList) = false := str_f14 (fun e => hsum (by
      rw [<- eA1, <- eA2] at e
      have := congrArg (fun b : ByteArray => b.data.toList) e
      simpa using this.symm))
     clear hsum eA1 eA2
     go_upto_region 31 with fail
     go_quiet (fail)
     have HB14 := hid (HB13.out.still ((Fr.refl _ w13).drewN nq))
     clear s1 s2 HB13
     obtain ⟨r0, r1, r2, r3, r4, r5, rf⟩ := HB14.out.r.cells
     have f0 := rf 0
     have f1 := rf 1
     have f2 := rf 2
     have f3 := rf 3
     have f4 := rf 4
     have f5 := rf 5
     go_wp2_with fail
     exact bodyPost_ret (Wdb.res2 (HB14.out.r.put 0 0 (.slice none 0 0) (.slice none 0 0) (.slice none 0 0) (.slice none 0 0)) rfl _ _ rfl rfl) rfl ⟨_, by rw [HDc.out]; rfl, by rw [HDc.out]; exact OwW.zero _ _, HB14.out.put 0 0 _ _ _ _⟩
    have e12 : A1 = A2 := by rw [<- eA1, <- eA2, hsum]
    subst e12
    have HDf : Hid (decW k bs x = if x (⟨f, ms, cs, hs, ks, nx⟩ : Wd) = 0 then ((⟨f, ms, cs, hs, ks, nx⟩ : Wd), 0) else (zW, x (⟨f, ms, cs, hs, ks, nx⟩ : Wd))) := hid (by rw [HDe.out, HSw.out]; dsimp only; rw [if_pos hsum])
    clear hsum eA1 eA2 HDe
    go_upto_region 31 with fail
    go_quiet (fail)
    have HB14 := hid (HB13.out.still ((Fr.refl _ w13).drewN nq))
    have HG14 := hid (HG13.out.still ((Fr.refl _ w13).drewN nq))
    obtain ⟨W14, eW14⟩ : ∃ X, w13.drewN nq = X := ⟨_, rfl⟩
    rw [eW14] at HB14 HG14 ⊢
    have HO14 : Hid (OwW W14 w.heap.size (.agg (wdcs f nx (.slice am nm cam) (.slice az ns caz) (.slice vo nh vc) (.slice vk nk vl))) (⟨f, ms, cs, hs, ks, nx⟩ : Wd)) := hid ⟨_, _, _, _, rfl, HG14.out.oa.less HB2.out.s.size, HG14.out.ob.less HB2.out.s.size, HG14.out.oc.less HB2.out.s.size, HG14.out.od.less HB2.out.s.size⟩
    have HCk := hid (HK.out W14 _ _ HB14.out.s HO14.out HSw.out)
    obtain ⟨xv, exv⟩ : ∃ q, x (⟨f, ms, cs, hs, ks, nx⟩ : Wd) = q := ⟨_, rfl⟩
    rw [exv] at HCk HDf
    have d0 := cell_of_row _ _ 0 _ _ _ HB14.out.c
    have d1 := cell_of_row _ _ 1 _ _ _ HB14.out.c
    have d2 := cell_of_row _ _ 2 _ _ _ HB14.out.c
    have d3 := cell_of_row _ _ 3 _ _ _ HB14.out.c
    have d4 := cell_of_row _ _ 4 _ _ _ HB14.out.c
    have d5 := cell_of_row _ _ 5 _ _ _ HB14.out.c
    simp only [List.getElem?_toArray, List.getElem?_cons_zero, List.getElem?_cons_succ] at d0 d1 d2 d3 d4 d5
    obtain ⟨c0, c1, c2, c3, c4, c5, cf⟩ := HG14.out.wb.cells
    clear s1 s2 HB13 HG13 eW14 exv HK HSw
    go_wp2_with fail
    clear d0 d1 d2 d3 d4 d5 c0 c1 c2 c3 c4 c5 cf
    refine HCk.out.mono ?_
    rintro e w15 ⟨he, h15⟩
    rw [he]
    have HB15 := hid (HB14.out.still h15)
    have HG15 := hid (HG14.out.still h15)
    have HO15 := hid (HO14.out.still h15)
    clear he h15 HB14 HG14 HO14 HCk
    by_cases hx : xv = 0
    case neg =>
     have HDc : Hid (decW k bs x = (zW, xv)) := hid (by rw [HDf.out, if_neg hx])
     have t1 : (xv != 0) = true := by simpa using hx
     clear hx HDf
     obtain ⟨r0, r1, r2, r3, r4, r5, rf⟩ := HB15.out.r.cells
     have f0 := rf 0
     have f1 := rf 1
     have f2 := rf 2
     have f3 := rf 3
     have f4 := rf 4
     have f5 := rf 5
     go_wp2_with fail
     exact bodyPost_ret (Wdb.res2 (HB15.out.r.put 0 0 (.slice none 0 0) (.slice none 0 0) (.slice none 0 0) (.slice none 0 0)) rfl _ _ rfl rfl) rfl ⟨_, by rw [HDc.out]; rfl, by rw [HDc.out]; exact OwW.zero _ _, HB15.out.put 0 0 _ _ _ _⟩
    subst hx
    have HDc : Hid (decW k bs x = ((⟨f, ms, cs, hs, ks, nx⟩ : Wd), 0)) := hid (by rw [HDf.out, if_pos rfl])
    clear HDf
    obtain ⟨c0, c1, c2, c3, c4, c5, cf⟩ := HG15.out.wb.cells
    obtain ⟨r0, r1, r2, r3, r4, r5, rf⟩ := HB15.out.r.cells
    have f0 := rf 0
    have f1 := rf 1
    have f2 := rf 2
    have f3 := rf 3
    have f4 := rf 4
    have f5 := rf 5
    go_wp2_with fail
    exact bodyPost_ret (Wdb.res2 (HB15.out.r.put f nx (.slice am nm cam) (.slice az ns caz) (.slice vo nh vc) (.slice vk nk vl)) rfl _ _ rfl rfl) rfl ⟨_, by rw [HDc.out]; rfl, by rw [HDc.out]; exact HO15.out.set6 (Wdb.ty HB15.out.r) _ _ _ _ _ _, HB15.out.put f nx _ _ _ _⟩
end Go.Proofs.YtkgbmefaphhcnaaGreatDoor
namespace Go.Proofs.YtkgbmefaphhcnaaGreatDoor
open Go.RowKit
open Np Za Ka Ja Ea Ha
set_option maxRecDepth 100000
set_option linter.unusedVariables false
end Go.Proofs.YtkgbmefaphhcnaaGreatDoor
