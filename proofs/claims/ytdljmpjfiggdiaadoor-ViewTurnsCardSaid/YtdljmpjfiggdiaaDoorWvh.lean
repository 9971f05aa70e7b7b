/- Corrections compared; the document's SameCorrections, of lists that are the same; a block that reads as a row. -/
import Derived.Test.YtdljmpjfiggdiaaDoorWvg
namespace Go.Proofs.YtdljmpjfiggdiaaDoor
open Go.RowKit
open Pu Gp Np Za Ka Ja Ea Ha
set_option maxRecDepth 100000

abbrev crv (x : Cr) : Value := .agg (crcs x)
theorem part_cr (x : Cr) (w : World) : (part 3 (crcs x) 0).run Tryd.prog w = .ok (.int .i64 x.pe) w ∧ (part 35 (crcs x) 1).run Tryd.prog w = .ok (pt x.bx x.bz) w ∧ (part 35 (crcs x) 3).run Tryd.prog w = .ok (pt x.ax x.az) w ∧ (part 3 (crcs x) 5).run Tryd.prog w = .ok (.int .i64 x.hl) w ∧ (part 3 (crcs x) 6).run Tryd.prog w = .ok (.int .i64 x.po) w := by
  refine ⟨?_, ?_, ?_, ?_, ?_⟩ <;> go_simp
def eqR (x y : Cr) : Bool := (x.pe == y.pe) && ((x.bx == y.bx && x.bz == y.bz) && ((x.ax == y.ax && x.az == y.az) && ((x.hl == y.hl) && (x.po == y.po))))
theorem eqR_refl (x : Cr) : eqR x x = true := by unfold eqR; simp
theorem equal_cr (x y : Cr) (w : World) : (Op.equalIn 10000 37 (crv x) (crv y)).run Tryd.prog w = .ok (eqR x y) w := by
  have a0 := fun w => (part_cr x w).1
  have a1 := fun w => (part_cr x w).2.1
  have a2 := fun w => (part_cr x w).2.2.1
  have a3 := fun w => (part_cr x w).2.2.2.1
  have a4 := fun w => (part_cr x w).2.2.2.2
  have b0 := fun w => (part_cr y w).1
  have b1 := fun w => (part_cr y w).2.1
  have b2 := fun w => (part_cr y w).2.2.1
  have b3 := fun w => (part_cr y w).2.2.2.1
  have b4 := fun w => (part_cr y w).2.2.2.2
  have r0 := fun w => equal_int 9998 x.pe y.pe w
  have q1 := fun w => equal_pt 9997 x.bx x.bz y.bx y.bz w
  have q2 := fun w => equal_pt 9997 x.ax x.az y.ax y.az w
  have r3 := fun w => equal_int 9998 x.hl y.hl w
  have r4 := fun w => equal_int 9998 x.po y.po w
  rw [run_equalIn_struct w 9999 _ _ _ (by kernel_rfl) (by kernel_rfl)]
  have e : (Tryd.prog.fieldsOf 37) = #[⟨ "Peer", 3, 0, false, "", "", 0⟩, ⟨ "Before", 35, 1, false, "", "", 8⟩, ⟨ "After", 35, 3, false, "", "", 24⟩, ⟨ "Health", 3, 5, false, "", "", 40⟩, ⟨ "Points", 3, 6, false, "", "", 48⟩] := by kernel_rfl
  rw [e]
  simp only [Op.eqFields, ne_eq, String.reduceEq, not_false_eq_true, if_true, Sem.run_bind, a0, a1, a2, a3, a4, b0, b1, b2, b3, b4, Result.andThen_ok, r0, q1, q2, r3, r4, Sem.run_ite, Sem.run_pure]
  unfold eqR
  exact st (st (st (st (st1 _))))
theorem eql_cr_t (x : Cr) (w : World) : (binOp .eql 37 (crv x) (crv x)).run Tryd.prog w = .ok (.bool true) w := by
  rw [run_eql_struct, equal_cr, eqR_refl]; rfl
theorem neq_cr_f (x : Cr) (w : World) : (binOp .neq 37 (crv x) (crv x)).run Tryd.prog w = .ok (.bool false) w := by
  rw [run_neq_struct, equal_cr, eqR_refl]; rfl
def crA (L : List Cr) (i : Nat) : Cr := L.getD i zCr
theorem rdCr {w : World} {B o n : Nat} {L : List Cr} (h : RdG KCr w (some ⟨B, o, none⟩) n L) {i : Nat} (hi : i < n) : w.cell? ⟨B, o + i * 7, none⟩ = some (.int .i64 (crA L i).pe) ∧ w.cell? ⟨B, o + i * 7 + 1, none⟩ = some (.int .i64 (crA L i).bx) ∧ w.cell? ⟨B, o + i * 7 + 2, none⟩ = some (.int .i64 (crA L i).bz) ∧ w.cell? ⟨B, o + i * 7 + 3, none⟩ = some (.int .i64 (crA L i).ax) ∧ w.cell? ⟨B, o + i * 7 + 4, none⟩ = some (.int .i64 (crA L i).az) ∧ w.cell? ⟨B, o + i * 7 + 5, none⟩ = some (.int .i64 (crA L i).hl) ∧ w.cell? ⟨B, o + i * 7 + 6, none⟩ = some (.int .i64 (crA L i).po) :=
  ⟨h.get hi 0 _ rfl, h.get hi 1 _ rfl, h.get hi 2 _ rfl, h.get hi 3 _ rfl, h.get hi 4 _ rfl, h.get hi 5 _ rfl, h.get hi 6 _ rfl⟩
/-- a block that holds a row reads as it -/
theorem rd_blk {α : Type} {K : Kd α} {w : World} {B : Nat} {cur : Array Value} {t : TypeId} (h : w.heap[B]? = some (.cells cur t (0, 0))) (L : List α) (hc : cur.toList = K.row L) (hn : L.length ≤ 281474976710656) : RdG K w (some ⟨B, 0, none⟩) L.length L := by
  refine ⟨rfl, hn, .inr ⟨B, 0, rfl, fun i hi j u hu => ?_⟩⟩
  have hj : j < K.k := by
    have := (List.getElem?_eq_some_iff.1 hu).1
    rwa [K.len] at this
  rw [cell_of_row _ _ _ _ _ _ h, Nat.zero_add, ← Array.getElem?_toList, hc, K.row_get L i j hi hj]
  exact hu
set_option maxHeartbeats 4000000 in
theorem rsamec_t (L : List Cr) (ao bo : Option Addr) (n ac bc : Nat) (w : World) (h1 : RdG KCr w ao n L) (h2 : RdG KCr w bo n L) : Calls Tryd.prog 11 #[.slice ao n ac, .slice bo n bc] w fun e w' => e = .returned (.bool true) ∧ Still w w' := by
  have HR1 := hid h1
  have HR2 := hid h2
  have hn47 : n ≤ 281474976710656 := h1.2.1
  clear h1 h2
  go_enter Tryd.func11, Tryd.ntmps11
  go_wp2_with fail
  go_loopw [5] (fun u wr => ∃ i : Nat, i ≤ n ∧ u = .int .i64 (i : Int) ∧ Still w wr) (fun u _ => n - (intOf u).toNat)
  case atStart => exact ⟨0, by omega, rfl, Fr.refl _ _⟩
  case round =>
    obtain ⟨i, hi, rfl, hs⟩ := hrel
    by_cases hin : i < n
    · have hlt : (i : Int) < (n : Int) := by omega
      have r1 := HR1.out.still hs
      have r2 := HR2.out.still hs
      obtain ⟨A, oa, rfl⟩ := r1.at (by omega)
      obtain ⟨B, ob, rfl⟩ := r2.at (by omega)
      obtain ⟨a0, a1, a2, a3, a4, a5, a6⟩ := rdCr r1 hin
      obtain ⟨b0, b1, b2, b3, b4, b5, b6⟩ := rdCr r2 hin
      obtain ⟨x, ex⟩ : ∃ x, crA L i = x := ⟨_, rfl⟩
      rw [ex] at a0 a1 a2 a3 a4 a5 a6 b0 b1 b2 b3 b4 b5 b6
      have E1 := neq_cr_f x
      have HS := hid hs
      have y0 := Cl.cell a0
      have y1 := Cl.cell a1
      have y2 := Cl.cell a2
      have y3 := Cl.cell a3
      have y4 := Cl.cell a4
      have y5 := Cl.cell a5
      have y6 := Cl.cell a6
      have z0 := Cl.cell b0
      have z1 := Cl.cell b1
      have z2 := Cl.cell b2
      have z3 := Cl.cell b3
      have z4 := Cl.cell b4
      have z5 := Cl.cell b5
      have z6 := Cl.cell b6
      have hne := Aft.here wr
      clear ex r1 r2 hs a0 a1 a2 a3 a4 a5 a6 b0 b1 b2 b3 b4 b5 b6
      go_upto_region 6 with fail
      refine region_all (by kernel_rfl) (by kernel_rfl) ?_
      repeat (go_big_quiet_step (fail))
      refine wpQuiet_nil ?_
      intro w2 h2
      have HS2 := hid (HS.out.trans h2)
      clear h2 hne E1 y0 y1 y2 y3 y4 y5 y6 z0 z1 z2 z3 z4 z5 z6
      go_wp2_with fail
      go_roundw
      case rel => exact ⟨i + 1, by omega, by go_num, HS2.out⟩
      case measure => first | (simp [intOf]; done) | (simp [intOf]; omega)
    · have hge : ¬ (i : Int) < (n : Int) := by omega
      have HS := hid hs
      clear hs hin
      go_wp2_with fail
      go_ret
      exact ⟨rfl, HS.out⟩
end Go.Proofs.YtdljmpjfiggdiaaDoor
