/- Commands compared; the document's SameCommands, Part. -/
import Derived.Test.YtdmgalaajgebkaaMgl
namespace Go.Proofs.Ytdmgalaajgebkaa
open Go.RowKit
set_option maxRecDepth 100000

theorem equal_o19 (x y : En) (w : World) : (Op.equalIn 9999 28 (.agg (ocs x)) (.agg (ocs y))).run Try.prog w = .ok ((x.vb == y.vb) && ((x.a == y.a) && ((x.b == y.b) && (x.c == y.c)))) w := by
  have c0 := fun w => (opart x w).1
  have d0 := fun w => (opart y w).1
  have r0 := fun w => equalE_int 9997 x.vb y.vb w
  have c1 := fun w => (opart x w).2.1
  have d1 := fun w => (opart y w).2.1
  have r1 := fun w => equalE_int 9997 x.a y.a w
  have c2 := fun w => (opart x w).2.2.1
  have d2 := fun w => (opart y w).2.2.1
  have r2 := fun w => equalE_int 9997 x.b y.b w
  have c3 := fun w => (opart x w).2.2.2
  have d3 := fun w => (opart y w).2.2.2
  have r3 := fun w => equalE_int 9997 x.c y.c w
  rw [run_equalIn_struct w 9998 _ _ _ (by kernel_rfl) (by kernel_rfl)]
  have e : (Try.prog.fieldsOf 28) = #[⟨ "Verb", 3, 0, false, "", "", 0⟩, ⟨ "A", 3, 1, false, "", "", 8⟩, ⟨ "B", 3, 2, false, "", "", 16⟩, ⟨ "C", 3, 3, false, "", "", 24⟩] := by kernel_rfl
  rw [e]
  simp only [Op.eqFields, ne_eq, String.reduceEq, not_false_eq_true, if_true, Sem.run_bind, c0, c1, c2, c3, d0, d1, d2, d3, Result.andThen_ok, r0, r1, r2, r3, Sem.run_ite, Sem.run_pure]
  exact stE (stE (stE (stE1 _)))
theorem equal_h19 (x y : En) (w : World) : (Op.equalIn 10000 30 (.agg (hcs x)) (.agg (hcs y))).run Try.prog w = .ok ((x.fr == y.fr) && ((x.pe == y.pe) && ((x.se == y.se) && ((x.vb == y.vb) && ((x.a == y.a) && ((x.b == y.b) && (x.c == y.c))))))) w := by
  have c0 := fun w => (hpart x w).1
  have d0 := fun w => (hpart y w).1
  have r0 := fun w => equalE_i64 9998 x.fr y.fr w
  have c1 := fun w => (hpart x w).2.1
  have d1 := fun w => (hpart y w).2.1
  have r1 := fun w => equalE_int 9998 x.pe y.pe w
  have c2 := fun w => (hpart x w).2.2.1
  have d2 := fun w => (hpart y w).2.2.1
  have r2 := fun w => equalE_int 9998 x.se y.se w
  have c3 := fun w => (hpart x w).2.2.2
  have d3 := fun w => (hpart y w).2.2.2
  have r3 := fun w => equal_o19 x y w
  rw [run_equalIn_struct w 9999 _ _ _ (by kernel_rfl) (by kernel_rfl)]
  have e : (Try.prog.fieldsOf 30) = #[⟨ "Frame", 2, 0, false, "", "", 0⟩, ⟨ "Peer", 3, 1, false, "", "", 8⟩, ⟨ "Seq", 3, 2, false, "", "", 16⟩, ⟨ "Order", 28, 3, false, "", "", 24⟩] := by kernel_rfl
  rw [e]
  simp only [Op.eqFields, ne_eq, String.reduceEq, not_false_eq_true, if_true, Sem.run_bind, c0, c1, c2, c3, d0, d1, d2, d3, Result.andThen_ok, r0, r1, r2, r3, Sem.run_ite, Sem.run_pure]
  exact stE (stE (stE (stE1 _)))
/-- are two commands the same? -/
def eqC (x y : En) : Bool := (x.fr == y.fr) && ((x.pe == y.pe) && ((x.se == y.se) && ((x.vb == y.vb) && ((x.a == y.a) && ((x.b == y.b) && (x.c == y.c))))))
theorem eqC_refl (x : En) : eqC x x = true := by unfold eqC; simp
theorem eql_hc (x y : En) (w : World) : (binOp .eql cmT (.agg (hcs x)) (.agg (hcs y))).run Try.prog w = .ok (.bool (eqC x y)) w := by
  rw [run_eql_struct, equal_h19]; rfl
theorem neq_hc (x y : En) (w : World) : (binOp .neq cmT (.agg (hcs x)) (.agg (hcs y))).run Try.prog w = .ok (.bool (!eqC x y)) w := by
  rw [run_neq_struct, equal_h19]; rfl
theorem eql_hc_t (x : En) (w : World) : (binOp .eql cmT (.agg (hcs x)) (.agg (hcs x))).run Try.prog w = .ok (.bool true) w := by
  rw [eql_hc, eqC_refl]
theorem neq_hc_f (x : En) (w : World) : (binOp .neq cmT (.agg (hcs x)) (.agg (hcs x))).run Try.prog w = .ok (.bool false) w := by
  rw [neq_hc, eqC_refl]; rfl
theorem guard_hc (op : BinOp) (a b : Operand) (xs ys : Array Value) (w : World) : (eqGuard op cmT a b (.agg xs) (.agg ys)).run Try.prog w = .ok () w := run_eqGuard_agg w op _ a b xs ys (by kernel_rfl)
theorem rdC19 {w : World} {B o n : Nat} {L : List En} (h : RdG KC w (some ⟨B, o, none⟩) n L) {i : Nat} (hi : i < n) : w.cell? ⟨B, o + i * 7, none⟩ = some (.int .i64 (att L i).fr) ∧ w.cell? ⟨B, o + i * 7 + 1, none⟩ = some (.int .i64 (att L i).pe) ∧ w.cell? ⟨B, o + i * 7 + 2, none⟩ = some (.int .i64 (att L i).se) ∧ w.cell? ⟨B, o + i * 7 + 3, none⟩ = some (.int .i64 (att L i).vb) ∧ w.cell? ⟨B, o + i * 7 + 4, none⟩ = some (.int .i64 (att L i).a) ∧ w.cell? ⟨B, o + i * 7 + 5, none⟩ = some (.int .i64 (att L i).b) ∧ w.cell? ⟨B, o + i * 7 + 6, none⟩ = some (.int .i64 (att L i).c) :=
  ⟨h.get hi 0 _ rfl, h.get hi 1 _ rfl, h.get hi 2 _ rfl, h.get hi 3 _ rfl, h.get hi 4 _ rfl, h.get hi 5 _ rfl, h.get hi 6 _ rfl⟩
set_option maxHeartbeats 2000000 in
/-- the document's Same of two rows that are the same -/
theorem rsamec19_t (L : List En) (ao bo : Option Addr) (n c1 c2 : Nat) (w : World) (ha : RdG KC w ao n L) (hb : RdG KC w bo n L) : Calls Try.prog 17 #[.slice ao n c1, .slice bo n c2] w fun e w' => e = .returned (.bool true) ∧ Still w w' := by
  have h47 := ha.2.1
  have HA := hid ha
  have HB := hid hb
  have hnn : ((n : Int) != (n : Int)) = false := by simp
  clear ha hb
  go_enter Try.func17, Try.ntmps17
  go_wp2_with fail
  go_loopw [5] (fun u wr => ∃ k : Nat, k ≤ n ∧ u = .int .i64 (k : Int) ∧ Hid (Still w wr)) (fun u _ => n - (intOf u).toNat)
  case atStart => exact ⟨0, by omega, rfl, hid (Fr.refl _ _)⟩
  case round =>
    obtain ⟨k, hk, rfl, HS⟩ := hrel
    by_cases hkn : k < n
    · have hlt : (k : Int) < (n : Int) := by omega
      obtain ⟨B1, o1, rfl⟩ := HA.out.at (by omega)
      obtain ⟨B2, o2, rfl⟩ := HB.out.at (by omega)
      obtain ⟨c0, c1', c2', c3, c4, c5, c6⟩ := rdC19 (HA.out.still HS.out) hkn
      obtain ⟨d0, d1, d2, d3, d4, d5, d6⟩ := rdC19 (HB.out.still HS.out) hkn
      obtain ⟨x, ex⟩ : ∃ x, att L k = x := ⟨_, rfl⟩
      rw [ex] at c0 c1' c2' c3 c4 c5 c6 d0 d1 d2 d3 d4 d5 d6
      clear ex
      have k0 := Cl.cell c0
      have k1 := Cl.cell c1'
      have k2 := Cl.cell c2'
      have k3 := Cl.cell c3
      have k4 := Cl.cell c4
      have k5 := Cl.cell c5
      have k6 := Cl.cell c6
      have l0 := Cl.cell d0
      have l1 := Cl.cell d1
      have l2 := Cl.cell d2
      have l3 := Cl.cell d3
      have l4 := Cl.cell d4
      have l5 := Cl.cell d5
      have l6 := Cl.cell d6
      have hne := Aft.here wr
      have hq := fun w => neq_hc_f x w
      have hg := fun a b w => guard_hc .neq a b (hcs x) (hcs x) w
      clear c0 c1' c2' c3 c4 c5 c6 d0 d1 d2 d3 d4 d5 d6
      go_upto_region 6 with fail
      refine region_all (by kernel_rfl) (by kernel_rfl) ?_
      repeat (go_big_quiet_step (fail))
      refine wpQuiet_nil ?_
      intro w3 h3
      have HS3 := hid (HS.out.trans h3)
      clear h3 hne k0 k1 k2 k3 k4 k5 k6 l0 l1 l2 l3 l4 l5 l6 hq hg
      go_wp2_with fail
      go_roundw
      case rel => exact ⟨k + 1, by omega, by go_num, HS3⟩
      case measure => simp [intOf]; omega
    · have hge : ¬ (k : Int) < (n : Int) := by omega
      go_wp2_with fail
      go_ret
      exact ⟨rfl, HS.out⟩
/-- has it come among the first k? -/
def fnd (x : En) (L : List En) (k : Nat) : Bool := (L.take k).any fun y => eqC x y
theorem fnd_next (x : En) {L : List En} {k : Nat} (hk : k < L.length) : fnd x L (k + 1) = (fnd x L k || eqC x (att L k)) := by
  unfold fnd
  rw [take_next hk, List.any_append, List.any_cons, List.any_nil, Bool.or_false]
theorem fnd_all {x : En} {L : List En} (h : x ∈ L) : fnd x L L.length = true := by
  unfold fnd
  rw [List.take_of_length_le (Nat.le_refl _)]
  exact List.any_eq_true.2 ⟨x, h, eqC_refl x⟩
set_option maxHeartbeats 4000000 in
theorem rpart_t (L M : List En) (ao bo : Option Addr) (n m c1 c2 : Nat) (hs : ∀ x ∈ L, x ∈ M) (w : World) (ha : RdG KC w ao n L) (hb : RdG KC w bo m M) : Calls Try.prog 14 #[.slice ao n c1, .slice bo m c2] w fun e w' => e = .returned (.bool true) ∧ Still w w' := by
  have h47 := ha.2.1
  have h48 := hb.2.1
  have HA := hid ha
  have HB := hid hb
  have HLn := hid ha.1
  have HMn := hid hb.1
  have HSub := hid hs
  clear ha hb hs
  go_enter Try.func14, Try.ntmps14
  go_wp2_with fail
  go_loopw [5] (fun u wr => ∃ k : Nat, k ≤ n ∧ u = .int .i64 (k : Int) ∧ Hid (Still w wr)) (fun u _ => n - (intOf u).toNat)
  case atStart => exact ⟨0, by omega, rfl, hid (Fr.refl _ _)⟩
  case round =>
    obtain ⟨k, hk, rfl, HS⟩ := hrel
    by_cases hkn : k < n
    · have hlt : (k : Int) < (n : Int) := by omega
      obtain ⟨B1, o1, rfl⟩ := HA.out.at (by omega)
      have HX : Hid (fnd (att L k) M m = true) := hid (by rw [← HMn.out]; exact fnd_all (HSub.out _ (att_mem (by have := HLn.out; omega))))
      have HC := hid (fun (u : World) (hu : Still w u) => rdC19 (HA.out.still hu) hkn)
      obtain ⟨x, ex⟩ : ∃ x, att L k = x := ⟨_, rfl⟩
      rw [ex] at HX HC
      clear ex
      go_wp2_with fail
      go_loopw [7, 6] (fun u v wr => ∃ j : Nat, j ≤ m ∧ u = .int .i64 (j : Int) ∧ v = .bool (fnd x M j) ∧ Hid (Still w wr)) (fun u _ _ => m - (intOf u).toNat)
      case atStart => exact ⟨0, by omega, rfl, rfl, HS⟩
      case round =>
        obtain ⟨j, hj, rfl, rfl, HS2⟩ := hrel
        by_cases hjm : j < m
        · have hltj : (j : Int) < (m : Int) := by omega
          obtain ⟨B2, o2, rfl⟩ := HB.out.at (by omega)
          have HN := hid (fnd_next x (L := M) (k := j) (by have := HMn.out; omega))
          obtain ⟨c0, c1', c2', c3, c4, c5, c6⟩ := HC.out _ HS2.out
          obtain ⟨d0, d1, d2, d3, d4, d5, d6⟩ := rdC19 (HB.out.still HS2.out) hjm
          obtain ⟨y, ey⟩ : ∃ y, att M j = y := ⟨_, rfl⟩
          rw [ey] at d0 d1 d2 d3 d4 d5 d6 HN
          clear ey
          have k0 := Cl.cell c0
          have k1 := Cl.cell c1'
          have k2 := Cl.cell c2'
          have k3 := Cl.cell c3
          have k4 := Cl.cell c4
          have k5 := Cl.cell c5
          have k6 := Cl.cell c6
          have l0 := Cl.cell d0
          have l1 := Cl.cell d1
          have l2 := Cl.cell d2
          have l3 := Cl.cell d3
          have l4 := Cl.cell d4
          have l5 := Cl.cell d5
          have l6 := Cl.cell d6
          have hne := Aft.here wr
          have hg := fun a b w => guard_hc .eql a b (hcs x) (hcs y) w
          have hq := fun w => eql_hc x y w
          obtain ⟨z, ez⟩ : ∃ z, eqC x y = z := ⟨_, rfl⟩
          rw [ez] at HN
          simp only [ez] at hq
          obtain ⟨fb, efb⟩ : ∃ b, fnd x M j = b := ⟨_, rfl⟩
          rw [efb] at HN ⊢
          clear ez efb c0 c1' c2' c3 c4 c5 c6 d0 d1 d2 d3 d4 d5 d6
          cases fb with
          | true =>
            have HN2 : Hid (fnd x M (j + 1) = true) := hid (by rw [HN.out]; rfl)
            clear HN
            go_upto_region 8 with fail
            refine region_all (by kernel_rfl) (by kernel_rfl) ?_
            repeat (go_big_quiet_step (rfl))
            refine wpQuiet_nil ?_
            intro w3 h3
            have HS3 := hid (HS2.out.trans h3)
            clear h3 hne k0 k1 k2 k3 k4 k5 k6 l0 l1 l2 l3 l4 l5 l6 hq hg
            go_wp2_with fail
            go_roundw
            case rel => exact ⟨j + 1, by omega, by go_num, by rw [HN2.out], HS3⟩
            case measure => simp [intOf]; omega
          | false =>
            have HN2 : Hid (fnd x M (j + 1) = z) := hid (by rw [HN.out]; rfl)
            clear HN
            go_upto_region 8 with fail
            refine region_all (by kernel_rfl) (by kernel_rfl) ?_
            repeat (go_big_quiet_step (rfl))
            refine wpQuiet_nil ?_
            intro w3 h3
            have HS3 := hid (HS2.out.trans h3)
            clear h3 hne k0 k1 k2 k3 k4 k5 k6 l0 l1 l2 l3 l4 l5 l6 hq hg
            go_wp2_with fail
            go_roundw
            case rel => exact ⟨j + 1, by omega, by go_num, by rw [HN2.out], HS3⟩
            case measure => simp [intOf]; omega
        · have hgej : ¬ (j : Int) < (m : Int) := by omega
          obtain rfl : j = m := by omega
          rw [HX.out]
          go_wp2_with fail
          go_roundw
          case rel => exact ⟨k + 1, by omega, by go_num, HS2⟩
          case measure => simp [intOf]; omega
    · have hge : ¬ (k : Int) < (n : Int) := by omega
      go_wp2_with fail
      go_ret
      exact ⟨rfl, HS.out⟩
end Go.Proofs.Ytdmgalaajgebkaa
