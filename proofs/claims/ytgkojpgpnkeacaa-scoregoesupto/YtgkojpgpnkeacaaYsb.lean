/- The program's Hit, and what it is made of. -/
import Derived.Test.YtgkojpgpnkeacaaYsa
namespace Go.Proofs.Ytgkojpgpnkeacaa
open Go.RowKit
open Ea
set_option maxRecDepth 100000

theorem shas_hit (x : Scr) (n : Int) (hm : MayC x) (hn : 1 ≤ n ∧ n ≤ 3) (w : World) : Calls Try.prog 18 #[cv x, .int .i64 n] w fun e w' => e = .returned (cv ⟨bdC (x.p + n), bdC (x.h + 1), x.o, x.k⟩) ∧ Still w w' := by
  have F0 := F2C.new w x
  obtain ⟨c0, c1, c2, c3, cf⟩ := F0.1.cells
  obtain ⟨hm1, hm2, hm3, hm4⟩ := hm
  have H0 := hid (fun w => ssum_any (x.h) (1) (by omega) (by omega) w)
  have H1 := hid (fun w => ssum_any (x.p) (n) (by omega) (by omega) w)
  obtain ⟨U, eU⟩ : ∃ v, bdC (x.h + 1) = v := ⟨_, rfl⟩
  rw [eU] at H0 ⊢
  obtain ⟨V, eV⟩ : ∃ v, bdC (x.p + n) = v := ⟨_, rfl⟩
  rw [eV] at H1 ⊢
  clear eU eV
  go_enter Try.func18, Try.ntmps18
  go_upto_region 1 with fail
  change Code.wp Try.prog _ _ _ (newC (newC w x) zC)
  obtain ⟨W0, eW0⟩ : ∃ W, newC (newC w x) zC = W := ⟨_, rfl⟩
  rw [eW0] at F0 c0 c1 c2 c3 cf ⊢
  clear eW0
  go_wp2_with fail
  refine (H0.out _).mono ?_
  rintro e w1 ⟨he, hw⟩
  rw [he, hw]
  clear he hw w1 H0
  have F1 := F0.setA 1 (.int .i64 U) (F0.1.sh U)
  obtain ⟨W1, eW1⟩ : ∃ W, W0.setCell ⟨w.heap.size, 1, none⟩ (.int .i64 U) = W := ⟨_, rfl⟩
  rw [eW1] at F1
  go_upto_region 2 with fail
  clear eW1 F0 c0 c1 c2 c3 cf
  obtain ⟨c0, c1, c2, c3, cf⟩ := F1.1.cells
  go_wp2_with fail
  refine (H1.out _).mono ?_
  rintro e w2 ⟨he, hw⟩
  rw [he, hw]
  clear he hw w2 H1
  have F2 := F1.setA 0 (.int .i64 V) (F1.1.sp V)
  obtain ⟨W2, eW2⟩ : ∃ W, W1.setCell ⟨w.heap.size, 0, none⟩ (.int .i64 V) = W := ⟨_, rfl⟩
  rw [eW2] at F2
  go_upto_region 3 with fail
  clear eW2 F1 c0 c1 c2 c3 cf
  obtain ⟨c0, c1, c2, c3, cf⟩ := F2.1.cells
  have HS : Hid (Still w W2) := hid F2.2.2
  have q := F2.2.1
  clear F2
  obtain ⟨d0, d1, d2, d3, df⟩ := q.cells
  go_wp2_with fail
  refine bodyPost_ret (Cb.res1 (Cb.put q _ _ _ _) rfl _ rfl) rfl ⟨rfl, ?_⟩
  repeat (first | refine setC_frC ?_ _ _ _ (by omega) | with_reducible exact HS.out)
theorem shas_out (x : Scr) (hm : MayC x) (w : World) : Calls Try.prog 19 #[cv x] w fun e w' => e = .returned (cv ⟨bdC (x.p + (10 + min x.k 5)), x.h, x.o, bdC (x.k + 1)⟩) ∧ Still w w' := by
  have F0 := F2C.new w x
  obtain ⟨c0, c1, c2, c3, cf⟩ := F0.1.cells
  obtain ⟨hm1, hm2, hm3, hm4⟩ := hm
  have H0 := hid (fun w => ssum_any (x.p) ((10 + min x.k 5)) (by omega) (by omega) w)
  have H1 := hid (fun w => ssum_any (x.k) (1) (by omega) (by omega) w)
  obtain ⟨V, eV⟩ : ∃ v, bdC (x.p + (10 + min x.k 5)) = v := ⟨_, rfl⟩
  rw [eV] at H0 ⊢
  obtain ⟨K, eK⟩ : ∃ v, bdC (x.k + 1) = v := ⟨_, rfl⟩
  rw [eK] at H1 ⊢
  clear eV eK
  go_enter Try.func19, Try.ntmps19
  go_upto_region 1 with fail
  change Code.wp Try.prog _ _ _ (newC (newC w x) zC)
  obtain ⟨W0, eW0⟩ : ∃ W, newC (newC w x) zC = W := ⟨_, rfl⟩
  rw [eW0] at F0 c0 c1 c2 c3 cf ⊢
  clear eW0
  go_wp2_with fail
  refine (H0.out _).mono ?_
  rintro e w1 ⟨he, hw⟩
  rw [he, hw]
  clear he hw w1 H0
  have F1 := F0.setA 0 (.int .i64 V) (F0.1.sp V)
  obtain ⟨W1, eW1⟩ : ∃ W, W0.setCell ⟨w.heap.size, 0, none⟩ (.int .i64 V) = W := ⟨_, rfl⟩
  rw [eW1] at F1
  go_upto_region 2 with fail
  clear eW1 F0 c0 c1 c2 c3 cf
  obtain ⟨c0, c1, c2, c3, cf⟩ := F1.1.cells
  go_wp2_with fail
  refine (H1.out _).mono ?_
  rintro e w2 ⟨he, hw⟩
  rw [he, hw]
  clear he hw w2 H1
  have F2 := F1.setA 3 (.int .i64 K) (F1.1.sk K)
  obtain ⟨W2, eW2⟩ : ∃ W, W1.setCell ⟨w.heap.size, 3, none⟩ (.int .i64 K) = W := ⟨_, rfl⟩
  rw [eW2] at F2
  go_upto_region 3 with fail
  clear eW2 F1 c0 c1 c2 c3 cf
  obtain ⟨c0, c1, c2, c3, cf⟩ := F2.1.cells
  have HS : Hid (Still w W2) := hid F2.2.2
  have q := F2.2.1
  clear F2
  obtain ⟨d0, d1, d2, d3, df⟩ := q.cells
  go_wp2_with fail
  refine bodyPost_ret (Cb.res1 (Cb.put q _ _ _ _) rfl _ rfl) rfl ⟨rfl, ?_⟩
  repeat (first | refine setC_frC ?_ _ _ _ (by omega) | with_reducible exact HS.out)
theorem swent_out (x : Scr) (hm : MayC x) (w : World) : Calls Try.prog 20 #[cv x] w fun e w' => e = .returned (cv ⟨bdC (x.p + (-2)), x.h, bdC (x.o + 1), 0⟩) ∧ Still w w' := by
  have F0 := F2C.new w x
  obtain ⟨c0, c1, c2, c3, cf⟩ := F0.1.cells
  obtain ⟨hm1, hm2, hm3, hm4⟩ := hm
  have H0 := hid (fun w => ssum_any (x.o) (1) (by omega) (by omega) w)
  have H1 := hid (fun w => ssum_any (x.p) ((-2)) (by omega) (by omega) w)
  obtain ⟨O, eO⟩ : ∃ v, bdC (x.o + 1) = v := ⟨_, rfl⟩
  rw [eO] at H0 ⊢
  obtain ⟨V, eV⟩ : ∃ v, bdC (x.p + (-2)) = v := ⟨_, rfl⟩
  rw [eV] at H1 ⊢
  clear eO eV
  go_enter Try.func20, Try.ntmps20
  go_upto_region 1 with fail
  change Code.wp Try.prog _ _ _ (newC (newC w x) zC)
  obtain ⟨W0, eW0⟩ : ∃ W, newC (newC w x) zC = W := ⟨_, rfl⟩
  rw [eW0] at F0 c0 c1 c2 c3 cf ⊢
  clear eW0
  go_wp2_with fail
  refine (H0.out _).mono ?_
  rintro e w1 ⟨he, hw⟩
  rw [he, hw]
  clear he hw w1 H0
  have F1 := F0.setA 2 (.int .i64 O) (F0.1.so O)
  obtain ⟨W1, eW1⟩ : ∃ W, W0.setCell ⟨w.heap.size, 2, none⟩ (.int .i64 O) = W := ⟨_, rfl⟩
  rw [eW1] at F1
  go_upto_region 2 with fail
  clear eW1 F0 c0 c1 c2 c3 cf
  obtain ⟨c0, c1, c2, c3, cf⟩ := F1.1.cells
  have F2 := F1.setA 3 (.int .i64 0) (F1.1.sk 0)
  obtain ⟨W2, eW2⟩ : ∃ W, W1.setCell ⟨w.heap.size, 3, none⟩ (.int .i64 0) = W := ⟨_, rfl⟩
  rw [eW2] at F2
  go_upto_region 3 with fail
  clear eW2 F1 c0 c1 c2 c3 cf
  obtain ⟨c0, c1, c2, c3, cf⟩ := F2.1.cells
  go_wp2_with fail
  refine (H1.out _).mono ?_
  rintro e w3 ⟨he, hw⟩
  rw [he, hw]
  clear he hw w3 H1
  have F3 := F2.setA 0 (.int .i64 V) (F2.1.sp V)
  obtain ⟨W3, eW3⟩ : ∃ W, W2.setCell ⟨w.heap.size, 0, none⟩ (.int .i64 V) = W := ⟨_, rfl⟩
  rw [eW3] at F3
  go_upto_region 4 with fail
  clear eW3 F2 c0 c1 c2 c3 cf
  obtain ⟨c0, c1, c2, c3, cf⟩ := F3.1.cells
  have HS : Hid (Still w W3) := hid F3.2.2
  have q := F3.2.1
  clear F3
  obtain ⟨d0, d1, d2, d3, df⟩ := q.cells
  go_wp2_with fail
  refine bodyPost_ret (Cb.res1 (Cb.put q _ _ _ _) rfl _ rfl) rfl ⟨rfl, ?_⟩
  repeat (first | refine setC_frC ?_ _ _ _ (by omega) | with_reducible exact HS.out)
end Go.Proofs.Ytgkojpgpnkeacaa
