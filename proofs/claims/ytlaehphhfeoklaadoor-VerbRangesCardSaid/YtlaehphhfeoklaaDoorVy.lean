/- The law on names and operands. -/
import Derived.Test.YtlaehphhfeoklaaDoorVx
namespace Go.Proofs.YtlaehphhfeoklaaDoor
open Go.RowKit
open Vp
set_option maxRecDepth 100000

abbrev opv (s : ByteArray) (x y : Int) : Value := .agg #[.string s, .int .i64 x, .int .i64 y]
theorem equal_op (s : ByteArray) (x y : Int) (w : World) : (Op.equalIn 10000 27 (opv s x y) (opv s x y)).run Tryd.prog w = .ok true w := by
  rw [run_equalIn_struct w 9999 _ _ _ (by kernel_rfl) (by kernel_rfl)]
  have e : (Tryd.prog.fieldsOf 27) = #[⟨ "Name", 9, 0, false, "", "", 0⟩, ⟨ "Least", 3, 1, false, "", "", 16⟩, ⟨ "Most", 3, 2, false, "", "", 24⟩] := by kernel_rfl
  rw [e]
  go_simp
theorem neq_op_f (s : ByteArray) (x y : Int) (w : World) : (binOp .neq 27 (opv s x y) (opv s x y)).run Tryd.prog w = .ok (.bool false) w := by
  rw [run_neq_struct, equal_op]; rfl
theorem guard_op (op : BinOp) (a b : Operand) (xs ys : Array Value) (w : World) : (eqGuard op 27 a b (.agg xs) (.agg ys)).run Tryd.prog w = .ok () w := run_eqGuard_agg w op _ a b xs ys (by kernel_rfl)
theorem opsOf_set : ∀ (ps : List (ByteArray × Int × Int)) (j : Nat) (_ : j < ps.length) (s : ByteArray) (x y : Int), (((opsOf ps).set (j * 3) (.string s)).set (j * 3 + 1) (.int .i64 x)).set (j * 3 + 2) (.int .i64 y) = opsOf (ps.set j (s, x, y))
  | [], j, h, s, x, y => by simp at h
  | p :: l, 0, h, s, x, y => by simp [opsOf]
  | p :: l, j + 1, h, s, x, y => by
    have ih := opsOf_set l j (by simpa using h) s x y
    have e : ∀ (p : ByteArray × Int × Int) (l : List (ByteArray × Int × Int)), opsOf (p :: l) = .string p.1 :: .int .i64 p.2.1 :: .int .i64 p.2.2 :: opsOf l := fun p l => by simp [opsOf]
    rw [List.set_cons_succ, e, e, ← ih, show (j + 1) * 3 = j * 3 + 1 + 1 + 1 by omega, show j * 3 + 1 + 1 + 1 + 1 = (j * 3 + 1) + 1 + 1 + 1 from rfl, show j * 3 + 1 + 1 + 1 + 2 = (j * 3 + 2) + 1 + 1 + 1 from rfl]
    simp only [List.set_cons_succ]
theorem OwO.set {w : World} {B g n cap : Nat} {ps : List (ByteArray × Int × Int)} (h : OwO w B (.slice (some ⟨g, 0, none⟩) n cap) ps) (j : Nat) (hj : j < ps.length) (s : ByteArray) (x y : Int) :
    OwO (((w.setCell ⟨g, j * 3, none⟩ (.string s)).setCell ⟨g, j * 3 + 1, none⟩ (.int .i64 x)).setCell ⟨g, j * 3 + 2, none⟩ (.int .i64 y)) B (.slice (some ⟨g, 0, none⟩) n cap) (ps.set j (s, x, y)) := by
  rcases h.2 with ⟨hv, _⟩ | ⟨g', cap', cur, hv, hb, hg, hn, hm, hs, ht⟩
  · cases hv
  · cases hv
    have h1 := heap_setCell_same w g (j * 3) _ _ (.string s) hg
    have h2 := heap_setCell_same _ g (j * 3 + 1) _ _ (.int .i64 x) h1
    have h3 := heap_setCell_same _ g (j * 3 + 2) _ _ (.int .i64 y) h2
    refine ⟨by rw [opsOf_len, List.length_set], .inr ⟨g, cap, _, by rw [List.length_set], hb, h3, by rw [List.length_set]; exact hn, hm, by rw [Array.size_setIfInBounds, Array.size_setIfInBounds, Array.size_setIfInBounds]; exact hs, ?_⟩⟩
    rw [List.length_set, ← opsOf_set ps j hj s x y, ← ht]
    simp only [Array.toList_setIfInBounds]
    rw [List.take_set, List.take_set, List.take_set]
set_option maxHeartbeats 4000000 in
/-- two lists of the same operands are the same -/
theorem same_any (B B' : Nat) (v v' : Value) (ps : List (ByteArray × Int × Int)) (hl : ps.length ≤ 100000) (w : World) (h : OwO w B v ps) (h' : OwO w B' v' ps) :
    Calls Tryd.prog 11 #[v, v'] w fun e w' => e = .returned (.bool true) ∧ Still w w' := by
  obtain ⟨ao, cap, rfl, hao⟩ := h.slice
  obtain ⟨ao', cap', rfl, hao'⟩ := h'.slice
  obtain ⟨n, en⟩ : ∃ n, ps.length = n := ⟨_, rfl⟩
  have HO := hid h
  have HO' := hid h'
  have HN := hid en
  rw [en] at hl HO HO' ⊢
  clear h h' hao hao' en
  go_enter Tryd.func11, Tryd.ntmps11
  go_wp2_with fail
  go_loopw [5] (fun u wr => ∃ j : Nat, j ≤ n ∧ u = .int .i64 (j : Int) ∧ Still w wr) (fun u _ => n - (intOf u).toNat)
  case atStart => exact ⟨0, by omega, rfl, Fr.refl _ _⟩
  case round =>
    obtain ⟨j, hj, rfl, hs⟩ := hrel
    by_cases hlt : j < n
    · have o1 := HO.out.still hs
      have o2 := HO'.out.still hs
      obtain ⟨g, cg, e1, _, _⟩ := o1.head (by rw [HN.out]; omega)
      obtain ⟨g', cg', e2, _, _⟩ := o2.head (by rw [HN.out]; omega)
      cases e1
      cases e2
      have k1 := o1.cell j (by rw [HN.out]; exact hlt)
      have k2 := o2.cell j (by rw [HN.out]; exact hlt)
      obtain ⟨p, ep⟩ : ∃ p, ps[j]'(by rw [HN.out]; exact hlt) = p := ⟨_, rfl⟩
      rw [ep] at k1 k2
      obtain ⟨S, X, Y⟩ := p
      have f0 := Cl.cell k1.1
      have f1 := Cl.cell k1.2.1
      have f2 := Cl.cell k1.2.2.1
      have f3 := Cl.cell k2.1
      have f4 := Cl.cell k2.2.1
      have f5 := Cl.cell k2.2.2.1
      have hne := Aft.here wr
      have N1 := neq_op_f S X Y
      have G1 := guard_op
      have HS := hid hs
      clear k1 k2 ep o1 o2 hs
      go_wp2_with fail
      refine region_all (by kernel_rfl) (by kernel_rfl) ?_
      repeat (go_big_quiet_step (fail))
      refine wpQuiet_nil ?_
      intro w2 h2
      have HS2 := hid (HS.out.trans h2)
      clear f0 f1 f2 f3 f4 f5 hne h2 HS
      go_wp2_with fail
      go_roundw
      case rel => exact ⟨j + 1, by omega, by go_num, HS2.out⟩
      case measure => simp [intOf]; omega
    · have HS := hid hs
      clear hs
      go_wp2_with fail
      go_ret
      exact ⟨rfl, HS.out⟩
end Go.Proofs.YtlaehphhfeoklaaDoor
