/- Pickups lent, and whether they are as they were lent. -/
import Derived.Test.YtiglielcdlnpbaaDoorKc
namespace Go.Proofs.YtiglielcdlnpbaaDoor
open Go.RowKit
open Pu Gp Np Ka
set_option maxRecDepth 100000

theorem pksOf_zero (m : Nat) : pksOf (List.replicate m zK) = List.replicate (m * 3) (.int .i64 0) := by
  induction m with
  | zero => rfl
  | succ m ih =>
    rw [List.replicate_succ, pksOf_cons, ih, show (m + 1) * 3 = m * 3 + 1 + 1 + 1 by omega]
    rfl
theorem made_zero (m : Nat) : (madeCells (kv zK).cells (m * 3)).toList = pksOf (List.replicate m zK) := by
  rw [pksOf_zero]
  apply List.ext_getElem?
  intro j
  by_cases hj : j < m * 3
  · have h3 : j % 3 = 0 ∨ j % 3 = 1 ∨ j % 3 = 2 := by omega
    have e : (kv zK).cells = #[.int .i64 0, .int .i64 0, .int .i64 0] := rfl
    rw [e]
    rcases h3 with h | h | h <;> simp [madeCells, hj, h]
  · simp [madeCells, hj]
theorem set_endK0 {L : List Pk} {n : Nat} {x y v : Pk} (h : L.length = n) : (L ++ [x, y]).set n v = L ++ [v, y] := by
  subst h; simp
theorem set_endK1 {L : List Pk} {n : Nat} {x y v : Pk} (h : L.length = n) : (L ++ [x, y]).set (n + 1) v = L ++ [x, v] := by
  subst h; simp
set_option maxHeartbeats 1000000 in
theorem lentK_any (so : Option Addr) (n c : Nat) (L : List Pk) (w : World) (hr : RdK w so n L) (hc : so = none → c = 0) (h47 : 24 * (n + 2) ≤ 281474976710656) :
    Calls Tryd.prog 9 #[.slice so n c] w fun r w' => ∃ g, r = .returned (.slice (some ⟨g, 0, none⟩) n (n + 2)) ∧ OwK w' w.heap.size (.slice (some ⟨g, 0, none⟩) (n + 2) (n + 2)) (L ++ [⟨-7, 0, 0⟩, ⟨-8, 0, 0⟩]) ∧ Still w w' := by
  obtain ⟨i, hi, hz, h1, h2⟩ := info_kv
  have hlen := hr.1
  have hmk : ∀ W : World, (Instr.makeSlice 22 (.int .i64 ((n : Int) + 2)) (.int .i64 ((n : Int) + 2))).run Tryd.prog W = .ok (.slice (some ⟨W.heap.size, 0, none⟩) (n + 2) (n + 2)) (W.alloc (.cells (madeCells (kv zK).cells ((n + 2) * 3)) 33)) := fun W => by
    have := run_make (P := Tryd.prog) W 22 33 i (kv zK) Tryd.underlying22 hi hz .i64 .i64 ((n : Int) + 2) ((n : Int) + 2) (by omega) (Int.le_refl _) (by rw [h2]; omega) (by omega)
    rw [show ((n : Int) + 2).toNat = n + 2 by omega, h1] at this
    exact this
  have hfresh : OwK (w.alloc (.cells (madeCells (kv zK).cells ((n + 2) * 3)) 33)) w.heap.size (.slice (some ⟨w.heap.size, 0, none⟩) (n + 2) (n + 2)) (List.replicate (n + 2) zK) := by
    have := World.ownsRow_lit (base := w.heap.size) (e := 33) (size := 3) w (madeCells (kv zK).cells ((n + 2) * 3)) (n + 2) (Nat.le_refl _) (by unfold maxLen; omega) (size_madeCells _ _)
    rw [made_zero] at this
    unfold OwK
    rw [List.length_replicate]
    exact this
  obtain ⟨W1, hcp, ho1, hf1⟩ := copy_owK (c := c) hfresh (hr.still (Still.alloc w _)) (by omega) hc
  have hst1 : Still w W1 := Fr.trans (F := fun _ => False) (Still.alloc w _) hf1 fun k hk e => by omega
  rw [List.drop_replicate, show n + 2 - n = 2 by omega, show List.replicate 2 zK = [zK, zK] from rfl] at ho1
  have ho2 := ho1.set n (by simp; omega) ⟨-7, 0, 0⟩
  rw [set_endK0 hlen] at ho2
  have hst2 := setC_fr (setC_fr (setC_fr hst1 w.heap.size (n * 3) (.int .i64 (-7)) (Nat.le_refl _)) w.heap.size (n * 3 + 1) (.int .i64 0) (Nat.le_refl _)) w.heap.size (n * 3 + 2) (.int .i64 0) (Nat.le_refl _)
  obtain ⟨c0, c1, c2, cf⟩ := ho1.cell n (by simp; omega)
  obtain ⟨W2, eW2⟩ : ∃ W2, ((W1.setCell ⟨w.heap.size, n * 3, none⟩ (.int .i64 (-7))).setCell ⟨w.heap.size, n * 3 + 1, none⟩ (.int .i64 0)).setCell ⟨w.heap.size, n * 3 + 2, none⟩ (.int .i64 0) = W2 := ⟨_, rfl⟩
  have ho2' : OwK W2 w.heap.size (.slice (some ⟨w.heap.size, 0, none⟩) (n + 2) (n + 2)) (L ++ [⟨-7, 0, 0⟩, zK]) := by rw [← eW2]; exact ho2
  rw [eW2] at hst2
  have ho3 := ho2'.set (n + 1) (by simp; omega) ⟨-8, 0, 0⟩
  rw [set_endK1 hlen] at ho3
  have hst3 := setC_fr (setC_fr (setC_fr hst2 w.heap.size ((n + 1) * 3) (.int .i64 (-8)) (Nat.le_refl _)) w.heap.size ((n + 1) * 3 + 1) (.int .i64 0) (Nat.le_refl _)) w.heap.size ((n + 1) * 3 + 2) (.int .i64 0) (Nat.le_refl _)
  have HR := hid (And.intro ho3 hst3)
  have HC2 := hid (ho2'.cell (n + 1) (by simp; omega))
  have hup := fun W => run_uptoK W (some ⟨w.heap.size, 0, none⟩) (n + 2) (n + 2) (n : Int) (by omega) (by omega)
  have hn2 : n + 2 ≤ 281474976710656 := by omega
  obtain ⟨CS, hCS⟩ : ∃ CS, CS = madeCells (kv zK).cells ((n + 2) * 3) := ⟨_, rfl⟩
  rw [← hCS] at hcp
  simp only [← hCS] at hmk
  clear hCS hlen hfresh hf1 hr ho1 ho2 ho2' ho3 hst1 hst2 hst3 hi hz h1 h2
  go_enter Tryd.func9, Tryd.ntmps9
  go_upto_region 4 with fail
  clear eW2 c0 c1 c2 cf
  obtain ⟨c0, c1, c2, cf⟩ := HC2.out
  go_wp2_with fail
  go_ret
  exact ⟨w.heap.size, rfl, HR.out.1, HR.out.2⟩
set_option maxHeartbeats 2000000 in
theorem stillK_any (g : Nat) (so : Option Addr) (n c : Nat) (L : List Pk) (B : Nat) (w : World) (hr : RdK w so n L) (ho : OwK w B (.slice (some ⟨g, 0, none⟩) (n + 2) (n + 2)) (L ++ [⟨-7, 0, 0⟩, ⟨-8, 0, 0⟩])) (h47 : 24 * (n + 2) ≤ 281474976710656) :
    Calls Tryd.prog 11 #[.slice (some ⟨g, 0, none⟩) n (n + 2), .slice so n c] w fun r w' => r = .returned (.bool true) ∧ Still w w' := by
  have HL := hid hr.1
  have HUP := hid (fun W => run_uptoK W (some ⟨g, 0, none⟩) n (n + 2) ((n : Int) + 2) (by omega) (by omega))
  have G1 := guard_kv
  have hn2 : n + 2 ≤ 281474976710656 := by omega
  have HR := hid hr
  have HO := hid ho
  clear hr ho
  go_enter Tryd.func11, Tryd.ntmps11
  go_wp2_with fail
  go_loopw [5] (fun vi wr => ∃ k : Nat, k ≤ n ∧ vi = .int .i64 (k : Int) ∧ Still w wr) (fun vi _ => n - (intOf vi).toNat)
  case atStart => exact ⟨0, Nat.zero_le _, rfl, Fr.refl _ _⟩
  case round =>
    obtain ⟨k, hk, rfl, hs⟩ := hrel
    have HS := hid hs
    clear hs
    by_cases hlt : k < n
    · have hlt' : (k : Int) < (n : Int) := by omega
      obtain ⟨b, o, rfl, hc⟩ := (HR.out.still HS.out).at (by omega)
      obtain ⟨c0, c1, c2⟩ := hc k hlt
      obtain ⟨d0, d1, d2, _⟩ := (HO.out.still HS.out).cell k (by simp; have := HL.out; omega)
      rw [show pk (L ++ [⟨-7, 0, 0⟩, ⟨-8, 0, 0⟩]) k = pk L k by simp [pk, List.getD, List.getElem?_append_left (show k < L.length by have := HL.out; omega)]] at d0 d1 d2
      have E1 := neq_kv_f (pk L k)
      obtain ⟨x, ex⟩ : ∃ x, pk L k = x := ⟨_, rfl⟩
      rw [ex] at c0 c1 c2 d0 d1 d2 E1
      have k0 := Cl.cell c0
      have k1 := Cl.cell c1
      have k2 := Cl.cell c2
      have k3 := Cl.cell d0
      have k4 := Cl.cell d1
      have k5 := Cl.cell d2
      have hne := Aft.here wr
      clear c0 c1 c2 d0 d1 d2 hc ex
      go_wp2_with fail
      refine region_all (by kernel_rfl) (by kernel_rfl) ?_
      repeat (go_big_quiet_step (fail))
      refine wpQuiet_nil ?_
      intro w2 h2
      have HS2 := hid (HS.out.trans h2)
      clear h2 HS hne k0 k1 k2 k3 k4 k5
      go_wp2_with fail
      go_roundw
      case rel => exact ⟨k + 1, by omega, by go_num, HS2.out⟩
      case measure => simp [intOf]; omega
    · have hge : ¬ (k : Int) < (n : Int) := by omega
      have hl2 := HO.out.still HS.out
      obtain ⟨c0, c1, c2, cf⟩ := hl2.cell n (by simp; have := HL.out; omega)
      obtain ⟨d0, d1, d2, _⟩ := hl2.cell (n + 1) (by simp; have := HL.out; omega)
      rw [show pk (L ++ [⟨-7, 0, 0⟩, ⟨-8, 0, 0⟩]) n = ⟨-7, 0, 0⟩ by rw [← HL.out]; simp [pk]] at c0 c1 c2
      rw [show pk (L ++ [⟨-7, 0, 0⟩, ⟨-8, 0, 0⟩]) (n + 1) = ⟨-8, 0, 0⟩ by rw [← HL.out]; simp [pk, List.getD]] at d0 d1 d2
      have hup := HUP.out
      have E1 : ∀ w, (binOp .eql 33 (.agg #[.int .i64 (-7), .int .i64 0, .int .i64 0]) (.agg #[.int .i64 (-7), .int .i64 0, .int .i64 0])).run Tryd.prog w = .ok (.bool true) w := eql_kv_t ⟨-7, 0, 0⟩
      have E2 : ∀ w, (binOp .eql 33 (.agg #[.int .i64 (-8), .int .i64 0, .int .i64 0]) (.agg #[.int .i64 (-8), .int .i64 0, .int .i64 0])).run Tryd.prog w = .ok (.bool true) w := eql_kv_t ⟨-8, 0, 0⟩
      clear hl2 hlt hk
      go_wp2_with fail
      go_ret
      exact ⟨rfl, HS.out⟩
end Go.Proofs.YtiglielcdlnpbaaDoor
