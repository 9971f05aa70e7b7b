/- The law's helpers: meets compared, a list written full, movers lent, and whether they are as they were lent. -/
import Derived.Test.YtpohikhiekmfgaaJb
import Derived.Test.YtpohikhiekmfgaaK5b
namespace Go.Proofs.Ytpohikhiekmfgaa
open Go.RowKit
open Pu Gp Ap Vp Np Za Ka Ja
set_option maxRecDepth 100000

theorem tpart_in (x : Int × Int) (w : World) : (part 3 #[.int .i64 x.1, .int .i64 x.2] 0).run Try.prog w = .ok (.int .i64 x.1) w ∧ (part 3 #[.int .i64 x.1, .int .i64 x.2] 1).run Try.prog w = .ok (.int .i64 x.2) w := by
  refine ⟨?_, ?_⟩ <;> go_simp
theorem equal_tv (x y : Int × Int) (w : World) : (Op.equalIn 10000 47 (.agg #[.int .i64 x.1, .int .i64 x.2]) (.agg #[.int .i64 y.1, .int .i64 y.2])).run Try.prog w = .ok ((x.1 == y.1) && (x.2 == y.2)) w := by
  have c0 := fun w => (tpart_in x w).1
  have d0 := fun w => (tpart_in y w).1
  have r0 := fun w => equal_int 9998 x.1 y.1 w
  have c1 := fun w => (tpart_in x w).2
  have d1 := fun w => (tpart_in y w).2
  have r1 := fun w => equal_int 9998 x.2 y.2 w
  rw [run_equalIn_struct w 9999 _ _ _ (by kernel_rfl) (by kernel_rfl)]
  have e : (Try.prog.fieldsOf 47) = #[⟨ "A", 3, 0, false, "", "", 0⟩, ⟨ "B", 3, 1, false, "", "", 8⟩] := by kernel_rfl
  rw [e]
  simp only [Op.eqFields, ne_eq, String.reduceEq, not_false_eq_true, if_true, Sem.run_bind, c0, c1, d0, d1, Result.andThen_ok, r0, r1, Sem.run_ite, Sem.run_pure]
  exact st (st1 _)
theorem eql_tv (x y : Int × Int) (w : World) : (binOp .eql 47 (.agg #[.int .i64 x.1, .int .i64 x.2]) (.agg #[.int .i64 y.1, .int .i64 y.2])).run Try.prog w = .ok (.bool ((x.1 == y.1) && (x.2 == y.2))) w := by
  rw [run_eql_struct, equal_tv]; rfl
theorem neq_tv_f (x : Int × Int) (w : World) : (binOp .neq 47 (.agg #[.int .i64 x.1, .int .i64 x.2]) (.agg #[.int .i64 x.1, .int .i64 x.2])).run Try.prog w = .ok (.bool false) w := by
  rw [run_neq_struct, equal_tv]; simp
theorem guard_tv (op : BinOp) (a b : Operand) (xs ys : Array Value) (w : World) : (eqGuard op 47 a b (.agg xs) (.agg ys)).run Try.prog w = .ok () w := run_eqGuard_agg w op _ a b xs ys (by kernel_rfl)
set_option maxHeartbeats 1000000 in
theorem same_any (ao bo : Option Addr) (n c d : Nat) (M : List (Int × Int)) (w : World) (ha : RdG KT w ao n M) (hb : RdG KT w bo n M) : Calls Try.prog 12 #[.slice ao n c, .slice bo n d] w fun r w' => r = .returned (.bool true) ∧ Still w w' := by
  have HA := hid ha
  have HB := hid hb
  have G1 := guard_tv
  have hn2 := ha.2.1
  clear ha hb
  go_enter Try.func12, Try.ntmps12
  go_wp2_with fail
  go_loopw [5] (fun vi wr => ∃ k : Nat, k ≤ n ∧ vi = .int .i64 (k : Int) ∧ Still w wr) (fun vi _ => n - (intOf vi).toNat)
  case atStart => exact ⟨0, Nat.zero_le _, rfl, Fr.refl _ _⟩
  case round =>
    obtain ⟨k, hk, rfl, hs⟩ := hrel
    have HS := hid hs
    clear hs
    by_cases hlt : k < n
    · have hlt' : (k : Int) < (n : Int) := by omega
      obtain ⟨B, o, rfl⟩ := (HA.out.still HS.out).at (by omega)
      obtain ⟨B2, o2, rfl⟩ := (HB.out.still HS.out).at (by omega)
      obtain ⟨c0, c1⟩ := rdP (HA.out.still HS.out) hlt
      obtain ⟨d0, d1⟩ := rdP (HB.out.still HS.out) hlt
      have E1 := neq_tv_f (pp M k)
      obtain ⟨x, ex⟩ : ∃ x, (pp M k).1 = x := ⟨_, rfl⟩
      obtain ⟨y, ey⟩ : ∃ x, (pp M k).2 = x := ⟨_, rfl⟩
      rw [ex] at c0 d0 E1
      rw [ey] at c1 d1 E1
      have k0 := Cl.cell c0
      have k1 := Cl.cell c1
      have k2 := Cl.cell d0
      have k3 := Cl.cell d1
      have hne := Aft.here wr
      clear c0 c1 d0 d1 ex ey
      go_wp2_with fail
      refine region_all (by kernel_rfl) (by kernel_rfl) ?_
      repeat (go_big_quiet_step (fail))
      refine wpQuiet_nil ?_
      intro w2 h2
      have HS2 := hid (HS.out.trans h2)
      clear h2 HS hne k0 k1 k2 k3
      go_wp2_with fail
      go_roundw
      case rel => exact ⟨k + 1, by omega, by go_num, HS2.out⟩
      case measure => simp [intOf]; omega
    · have hge : ¬ (k : Int) < (n : Int) := by omega
      clear hlt hk
      go_wp2_with fail
      go_ret
      exact ⟨rfl, HS.out⟩
set_option maxHeartbeats 1000000 in
theorem full_any (B : Nat) (v : Value) (M : List (Int × Int)) (w : World) (ho : OwG KT 47 w B v M) (hB : B ≤ w.heap.size) (hl : M.length ≤ 1000) : Calls Try.prog 13 #[v] w fun r w' => r = .returned (.int .i64 ((M.length : Int) + 1)) ∧ Fr (fun k => v.ownBlock = some k) w w' := by
  obtain ⟨ao, cap, rfl, _⟩ := ho.slice
  obtain ⟨n, en⟩ : ∃ n, M.length = n := ⟨_, rfl⟩
  rw [en] at hl ho ⊢
  have HO := hid ho
  have HN := hid en
  have HBz := hid hB
  clear ho en hB
  go_enter Try.func13, Try.ntmps13
  go_wp2_with fail
  go_loopw [3] (fun u wr => ∃ (i : Nat) (M' : List (Int × Int)), i ≤ n ∧ u = .int .i64 (i : Int) ∧ M'.length = n ∧ OwG KT 47 wr B (.slice ao n cap) M' ∧ Fr (fun k => (Value.slice ao n cap).ownBlock = some k) w wr) (fun u _ => n - (intOf u).toNat)
  case atStart => exact ⟨0, M, by omega, rfl, HN.out, HO.out, Fr.refl _ _⟩
  case round =>
    clear HO HN
    obtain ⟨i, M', hi, rfl, hl', ho, hf⟩ := hrel
    have HF := hid hf
    by_cases hin : i < n
    · have hlt : (i : Int) < (n : Int) := by omega
      obtain ⟨g, cg, e1, g1, g2⟩ := ho.head (by omega)
      rw [hl'] at e1
      cases e1
      obtain ⟨c0, c1, cf⟩ := owT ho (i := i) (by omega)
      have o3 := ho.put (i := i) (by omega) ((-1 - (i : Int)), -9)
      have o4 : OwG KT 47 ((wr.setCell ⟨g, i * 2, none⟩ (.int .i64 (-1 - (i : Int)))).setCell ⟨g, i * 2 + 1, none⟩ (.int .i64 (-9))) B (.slice (some ⟨g, 0, none⟩) n cap) (M'.set i ((-1 - (i : Int)), -9)) := o3
      have HO4 := hid o4
      have HL4 := hid (show (M'.set i ((-1 - (i : Int)), -9)).length = n by rw [List.length_set]; exact hl')
      have HF4 := hid (Fr.setCell (Fr.setCell HF.out ⟨g, i * 2, none⟩ (.int .i64 (-1 - (i : Int))) (.inl rfl)) ⟨g, i * 2 + 1, none⟩ (.int .i64 (-9)) (.inl rfl))
      clear ho hf o3 o4 HF
      go_wp2_with fail
      go_roundw
      case rel => exact ⟨i + 1, _, by omega, by go_num, HL4.out, HO4.out, HF4.out⟩
      case measure => simp [intOf]; omega
    · have hge : ¬ (i : Int) < (n : Int) := by omega
      have A4 := Still.alloc wr (.cells #[.int .i64 (-50), .int .i64 0] 47)
      have HO4 := hid (ho.still A4)
      have HX4 : Hid ((wr.alloc (.cells #[.int .i64 (-50), .int .i64 0] 47)).heap[wr.heap.size]? = some (.cells #[.int .i64 (-50), .int .i64 0] 47 (0, 0))) := hid (heap_alloc_new wr _)
      have HB4 := hid (show B ≤ (wr.alloc (.cells #[.int .i64 (-50), .int .i64 0] 47)).heap.size by rw [size_alloc]; have := HF.out.size; have := HBz.out; omega)
      have HF4 := hid (Fr.alloc HF.out (.cells #[.int .i64 (-50), .int .i64 0] 47))
      have HL4 := hid (show M'.length ≤ 100000 by omega)
      have HL5 := hid hl'
      clear A4 ho hf HF hin hi hl'
      go_wp2_with (at_builtin; refine wpList_appT _ rfl _ _ rfl B wr.heap.size _ M' (-50) 0 rfl rfl HO4.out HX4.out HL4.out HB4.out ?_; intro v' w' ho' hf'; obtain ⟨ao', cap', rfl, _⟩ := ho'.slice; rw [show (M' ++ [((-50 : Int), (0 : Int))]).length = n + 1 by rw [List.length_append, HL5.out]; rfl])
      go_ret
      exact ⟨by simp, Fr.trans HF4.out hf' (fun k _ h => h)⟩
def m7 : Mv := ⟨0, 0, 0, 0, 0, 0, 0, 0, 0, false, 0, -7, 0⟩
theorem set_endM {L : List Mv} {n : Nat} {x v : Mv} (h : L.length = n) : (L ++ [x]).set n v = L ++ [v] := by
  subst h; simp
set_option maxHeartbeats 1000000 in
theorem lentM_any (so : Option Addr) (n c : Nat) (L : List Mv) (w : World) (hr : RdG KM w so n L) (hc : so = none → c = 0) (h47 : 104 * (n + 1) ≤ 281474976710656) :
    Calls Try.prog 9 #[.slice so n c] w fun r w' => ∃ g, r = .returned (.slice (some ⟨g, 0, none⟩) n (n + 1)) ∧ OwG KM 35 w' w.heap.size (.slice (some ⟨g, 0, none⟩) (n + 1) (n + 1)) (L ++ [m7]) ∧ Still w w' := by
  have hlen := hr.1
  have hmk0 := makeG KM (t := 22) Try.underlying22 104 infoM (n + 1) (by omega) (by omega)
  have hmk := hmk0.1
  have hfresh := hmk0.2 w
  obtain ⟨CS, hCS⟩ : ∃ CS, madeCells (KM.f KM.d).toArray ((n + 1) * KM.k) = CS := ⟨_, rfl⟩
  rw [hCS] at hfresh
  simp only [hCS] at hmk
  have hup0 := fun W => run_uptoG (P := Try.prog) (t := 22) Try.underlying22 (by obtain ⟨i, h, _⟩ := infoM; exact ⟨i, h⟩) W (some ⟨w.heap.size, 0, none⟩) (n + 1) (n + 1) (n : Int) (by omega) (by omega)
  obtain ⟨W1, hcp, ho1, hf1⟩ := copyG (P := Try.prog) (t := 22) (c := c) Try.underlying22 (by obtain ⟨i, h, _, h2, _⟩ := infoM; exact ⟨i, h, h2⟩) hfresh (hr.still (Still.alloc w _)) (by omega) hc
  have hst1 : Still w W1 := Fr.trans (F := fun _ => False) (Still.alloc w _) hf1 fun k hk e => by omega
  rw [List.drop_replicate, show n + 1 - n = 1 by omega, show List.replicate 1 KM.d = [zM] from rfl] at ho1
  have ho2 := ho1.put (i := n) (by simp; omega) m7
  rw [set_endM hlen] at ho2
  have hst2 := setC_fr (setC_fr (setC_fr (setC_fr (setC_fr (setC_fr (setC_fr (setC_fr (setC_fr (setC_fr (setC_fr (setC_fr (setC_fr (hst1) w.heap.size (n * 13) (.int .i64 0) (Nat.le_refl _)) w.heap.size (n * 13 + 1) (.int .i64 0) (Nat.le_refl _)) w.heap.size (n * 13 + 2) (.int .i64 0) (Nat.le_refl _)) w.heap.size (n * 13 + 3) (.int .i64 0) (Nat.le_refl _)) w.heap.size (n * 13 + 4) (.int .i64 0) (Nat.le_refl _)) w.heap.size (n * 13 + 5) (.int .i64 0) (Nat.le_refl _)) w.heap.size (n * 13 + 6) (.int .i64 0) (Nat.le_refl _)) w.heap.size (n * 13 + 7) (.int .i64 0) (Nat.le_refl _)) w.heap.size (n * 13 + 8) (.int .i64 0) (Nat.le_refl _)) w.heap.size (n * 13 + 9) (.bool false) (Nat.le_refl _)) w.heap.size (n * 13 + 10) (.int .i64 0) (Nat.le_refl _)) w.heap.size (n * 13 + 11) (.int .i64 (-7)) (Nat.le_refl _)) w.heap.size (n * 13 + 12) (.int .i64 0) (Nat.le_refl _)
  have HR : Hid (OwG KM 35 (((((((((((((W1.setCell ⟨w.heap.size, n * 13, none⟩ (.int .i64 0)).setCell ⟨w.heap.size, n * 13 + 1, none⟩ (.int .i64 0)).setCell ⟨w.heap.size, n * 13 + 2, none⟩ (.int .i64 0)).setCell ⟨w.heap.size, n * 13 + 3, none⟩ (.int .i64 0)).setCell ⟨w.heap.size, n * 13 + 4, none⟩ (.int .i64 0)).setCell ⟨w.heap.size, n * 13 + 5, none⟩ (.int .i64 0)).setCell ⟨w.heap.size, n * 13 + 6, none⟩ (.int .i64 0)).setCell ⟨w.heap.size, n * 13 + 7, none⟩ (.int .i64 0)).setCell ⟨w.heap.size, n * 13 + 8, none⟩ (.int .i64 0)).setCell ⟨w.heap.size, n * 13 + 9, none⟩ (.bool false)).setCell ⟨w.heap.size, n * 13 + 10, none⟩ (.int .i64 0)).setCell ⟨w.heap.size, n * 13 + 11, none⟩ (.int .i64 (-7))).setCell ⟨w.heap.size, n * 13 + 12, none⟩ (.int .i64 0)) w.heap.size (.slice (some ⟨w.heap.size, 0, none⟩) (n + 1) (n + 1)) (L ++ [m7]) ∧ Still w (((((((((((((W1.setCell ⟨w.heap.size, n * 13, none⟩ (.int .i64 0)).setCell ⟨w.heap.size, n * 13 + 1, none⟩ (.int .i64 0)).setCell ⟨w.heap.size, n * 13 + 2, none⟩ (.int .i64 0)).setCell ⟨w.heap.size, n * 13 + 3, none⟩ (.int .i64 0)).setCell ⟨w.heap.size, n * 13 + 4, none⟩ (.int .i64 0)).setCell ⟨w.heap.size, n * 13 + 5, none⟩ (.int .i64 0)).setCell ⟨w.heap.size, n * 13 + 6, none⟩ (.int .i64 0)).setCell ⟨w.heap.size, n * 13 + 7, none⟩ (.int .i64 0)).setCell ⟨w.heap.size, n * 13 + 8, none⟩ (.int .i64 0)).setCell ⟨w.heap.size, n * 13 + 9, none⟩ (.bool false)).setCell ⟨w.heap.size, n * 13 + 10, none⟩ (.int .i64 0)).setCell ⟨w.heap.size, n * 13 + 11, none⟩ (.int .i64 (-7))).setCell ⟨w.heap.size, n * 13 + 12, none⟩ (.int .i64 0))) := hid ⟨ho2, hst2⟩
  obtain ⟨c0, c1, c2, c3, c4, c5, c6, c7, c8, c9, c10, c11, c12, cf⟩ := owM ho1 (i := n) (by simp; omega)
  have hup := hup0
  have hn2 : n + 1 ≤ 281474976710656 := by omega
  rw [show ((n + 1 : Nat) : Int) = (n : Int) + 1 by omega] at hmk
  clear hCS hlen hfresh hf1 hr ho1 ho2 hst1 hst2 hmk0 hup0
  go_enter Try.func9, Try.ntmps9
  go_wp2_with fail
  go_ret
  exact ⟨w.heap.size, rfl, HR.out.1, HR.out.2⟩
set_option maxHeartbeats 2000000 in
theorem stillM_any (g : Nat) (so : Option Addr) (n c : Nat) (L : List Mv) (B : Nat) (w : World) (hr : RdG KM w so n L) (ho : OwG KM 35 w B (.slice (some ⟨g, 0, none⟩) (n + 1) (n + 1)) (L ++ [m7])) (h47 : 104 * (n + 1) ≤ 281474976710656) :
    Calls Try.prog 14 #[.slice (some ⟨g, 0, none⟩) n (n + 1), .slice so n c] w fun r w' => r = .returned (.bool true) ∧ Still w w' := by
  have HL := hid hr.1
  have HUP := hid (fun W => run_uptoG (P := Try.prog) (t := 22) Try.underlying22 (by obtain ⟨i, h, _⟩ := infoM; exact ⟨i, h⟩) W (some ⟨g, 0, none⟩) n (n + 1) ((n : Int) + 1) (by omega) (by omega))
  have G1 := guard_mv
  have hn2 : n + 1 ≤ 281474976710656 := by omega
  have HR := hid hr
  have HO := hid ho
  clear hr ho
  go_enter Try.func14, Try.ntmps14
  go_wp2_with fail
  go_loopw [5] (fun vi wr => ∃ k : Nat, k ≤ n ∧ vi = .int .i64 (k : Int) ∧ Still w wr) (fun vi _ => n - (intOf vi).toNat)
  case atStart => exact ⟨0, Nat.zero_le _, rfl, Fr.refl _ _⟩
  case round =>
    obtain ⟨k, hk, rfl, hs⟩ := hrel
    have HS := hid hs
    clear hs
    by_cases hlt : k < n
    · have hlt' : (k : Int) < (n : Int) := by omega
      obtain ⟨b, o, rfl⟩ := (HR.out.still HS.out).at (by omega)
      obtain ⟨c0, c1, c2, c3, c4, c5, c6, c7, c8, c9, c10, c11, c12⟩ := rdM (HR.out.still HS.out) hlt
      obtain ⟨d0, d1, d2, d3, d4, d5, d6, d7, d8, d9, d10, d11, d12, _⟩ := owM (HO.out.still HS.out) (i := k) (by simp; have := HL.out; omega)
      rw [show mm (L ++ [m7]) k = mm L k by simp [mm, List.getD, List.getElem?_append_left (show k < L.length by have := HL.out; omega)]] at d0 d1 d2 d3 d4 d5 d6 d7 d8 d9 d10 d11 d12
      have E1 := neq_mv_f (mm L k)
      obtain ⟨x, ex⟩ : ∃ x, mm L k = x := ⟨_, rfl⟩
      rw [ex] at c0 c1 c2 c3 c4 c5 c6 c7 c8 c9 c10 c11 c12 d0 d1 d2 d3 d4 d5 d6 d7 d8 d9 d10 d11 d12 E1
      have k0 := Cl.cell c0
      have k1 := Cl.cell c1
      have k2 := Cl.cell c2
      have k3 := Cl.cell c3
      have k4 := Cl.cell c4
      have k5 := Cl.cell c5
      have k6 := Cl.cell c6
      have k7 := Cl.cell c7
      have k8 := Cl.cell c8
      have k9 := Cl.cell c9
      have k10 := Cl.cell c10
      have k11 := Cl.cell c11
      have k12 := Cl.cell c12
      have l0 := Cl.cell d0
      have l1 := Cl.cell d1
      have l2 := Cl.cell d2
      have l3 := Cl.cell d3
      have l4 := Cl.cell d4
      have l5 := Cl.cell d5
      have l6 := Cl.cell d6
      have l7 := Cl.cell d7
      have l8 := Cl.cell d8
      have l9 := Cl.cell d9
      have l10 := Cl.cell d10
      have l11 := Cl.cell d11
      have l12 := Cl.cell d12
      have hne := Aft.here wr
      clear c0 c1 c2 c3 c4 c5 c6 c7 c8 c9 c10 c11 c12 d0 d1 d2 d3 d4 d5 d6 d7 d8 d9 d10 d11 d12 ex
      go_wp2_with fail
      refine region_all (by kernel_rfl) (by kernel_rfl) ?_
      repeat (go_big_quiet_step (fail))
      refine wpQuiet_nil ?_
      intro w2 h2
      have HS2 := hid (HS.out.trans h2)
      clear h2 HS hne k0 k1 k2 k3 k4 k5 k6 k7 k8 k9 k10 k11 k12 l0 l1 l2 l3 l4 l5 l6 l7 l8 l9 l10 l11 l12
      go_wp2_with fail
      go_roundw
      case rel => exact ⟨k + 1, by omega, by go_num, HS2.out⟩
      case measure => simp [intOf]; omega
    · have hge : ¬ (k : Int) < (n : Int) := by omega
      have hl2 := HO.out.still HS.out
      obtain ⟨c0, c1, c2, c3, c4, c5, c6, c7, c8, c9, c10, c11, c12, cf⟩ := owM hl2 (i := n) (by simp; have := HL.out; omega)
      rw [show mm (L ++ [m7]) n = m7 by rw [← HL.out]; simp [mm]] at c0 c1 c2 c3 c4 c5 c6 c7 c8 c9 c10 c11 c12
      simp only [m7] at c0 c1 c2 c3 c4 c5 c6 c7 c8 c9 c10 c11 c12
      have hup := HUP.out
      have E1 : ∀ w, (binOp .eql 35 (.agg #[.int .i64 0, .int .i64 0, .int .i64 0, .int .i64 0, .int .i64 0, .int .i64 0, .int .i64 0, .int .i64 0, .int .i64 0, .bool false, .int .i64 0, .int .i64 (-7), .int .i64 0]) (.agg #[.int .i64 0, .int .i64 0, .int .i64 0, .int .i64 0, .int .i64 0, .int .i64 0, .int .i64 0, .int .i64 0, .int .i64 0, .bool false, .int .i64 0, .int .i64 (-7), .int .i64 0])).run Try.prog w = .ok (.bool true) w := eql_mv_t m7
      clear hl2 hlt hk
      go_wp2_with fail
      go_ret
      exact ⟨rfl, HS.out⟩
end Go.Proofs.Ytpohikhiekmfgaa
