/- The program's numbers, operandAt and Check. -/
import Derived.Test.YtaalbkmdmocdeaaDoorYk
import Derived.Test.YtaalbkmdmocdeaaDoorVc
namespace Go.Proofs.YtaalbkmdmocdeaaDoor
open Go.RowKit
open Vp
set_option maxRecDepth 100000

/-- block g holds three numbers -/
def N3 (w : World) (g : Nat) (a b c : Int) : Prop := w.heap[g]? = some (.cells #[.int .i64 a, .int .i64 b, .int .i64 c] 85 (0, 0))
theorem N3.still {w w' : World} {g : Nat} {a b c : Int} (h : N3 w g a b c) (hs : Still w w') : N3 w' g a b c := hs.kept_still h
theorem N3.cells {w : World} {g : Nat} {a b c : Int} (h : N3 w g a b c) :
    w.cell? ⟨g, 0, none⟩ = some (.int .i64 a) ∧ w.cell? ⟨g, 1, none⟩ = some (.int .i64 b) ∧ w.cell? ⟨g, 2, none⟩ = some (.int .i64 c) ∧ ∀ o, w.frozen? ⟨g, o, none⟩ = false := by
  refine ⟨?_, ?_, ?_, fun o => frozen_of_row w g o _ _ h⟩ <;> (rw [cell_of_row _ _ _ _ _ _ h]; rfl)
theorem newN3 (w : World) (a b c : Int) : N3 (w.alloc (.cells #[.int .i64 a, .int .i64 b, .int .i64 c] 85)) w.heap.size a b c := heap_alloc_new w _
abbrev n3 (a b c : Int) : Value := .agg #[.int .i64 a, .int .i64 b, .int .i64 c]
theorem load_n3 (w : World) (g : Nat) (a b c : Int) (c0 : w.cell? ⟨g, 0, none⟩ = some (.int .i64 a)) (c1 : w.cell? ⟨g, 1, none⟩ = some (.int .i64 b)) (c2 : w.cell? ⟨g, 2, none⟩ = some (.int .i64 c)) : (loadVar 85 ⟨g, 0, none⟩).run Tryd.prog w = .ok (n3 a b c) w := by
  go_simp
theorem N3.res {fn : Func} {p : Tmp} {w : World} {g : Nat} {a b c : Int} (hb : N3 w g a b c) (h : fn.results = #[.cell p 85]) (tmps : Array Value) (hp : tmps.getD p undef = .pointer (some ⟨g, 0, none⟩)) :
    (results fn tmps).run Tryd.prog w = .ok (n3 a b c) w := by
  have hp' : tmps[p]?.getD undef = .pointer (some ⟨g, 0, none⟩) := by simpa using hp
  simp [results, h, hp', asAddr, load_n3 w g a b c hb.cells.1 hb.cells.2.1 hb.cells.2.2.1]
theorem numbers_any (v a b c : Int) (w : World) : Calls Tryd.prog 57 #[od v a b c] w fun e w' => e = .returned (n3 a b c) ∧ Still w w' := by
  have p := newO_orb w v a b c
  have HS0 := hid (Still.alloc w (.cells #[.int .i64 v, .int .i64 a, .int .i64 b, .int .i64 c] 32))
  go_enter Tryd.func57, Tryd.ntmps57
  go_wp2_with fail
  have h := newN3 (newO w v a b c) a b c
  rw [sz] at h
  exact bodyPost_ret (h.res rfl _ rfl) rfl ⟨rfl, HS0.out.trans (Still.alloc _ _)⟩
/-- an operand as a value -/
abbrev opw (s : ByteArray) (x y : Int) : Value := .agg #[.string s, .int .i64 x, .int .i64 y]
theorem load_opb (w : World) (g o : Nat) (s : ByteArray) (x y : Int) (c0 : w.cell? ⟨g, o, none⟩ = some (.string s)) (c1 : w.cell? ⟨g, o + 1, none⟩ = some (.int .i64 x)) (c2 : w.cell? ⟨g, o + 2, none⟩ = some (.int .i64 y)) : (loadVar 88 ⟨g, o, none⟩).run Tryd.prog w = .ok (opw s x y) w := by
  go_simp
theorem Opb.res {fn : Func} {p : Tmp} {w : World} {g : Nat} {s : ByteArray} {x y : Int} (hb : Opb w g s x y) (h : fn.results = #[.cell p 88]) (tmps : Array Value) (hp : tmps.getD p undef = .pointer (some ⟨g, 0, none⟩)) :
    (results fn tmps).run Tryd.prog w = .ok (opw s x y) w := by
  have hp' : tmps[p]?.getD undef = .pointer (some ⟨g, 0, none⟩) := by simpa using hp
  simp [results, h, hp', asAddr, load_opb w g 0 s x y hb.cells.1 hb.cells.2.1 hb.cells.2.2.1]
abbrev setOp (w : World) (g : Nat) (s : ByteArray) (x y : Int) : World := ((w.setCell ⟨g, 0, none⟩ (.string s)).setCell ⟨g, 1, none⟩ (.int .i64 x)).setCell ⟨g, 2, none⟩ (.int .i64 y)
/-- the operand at a place, by the program -/
theorem at_in (s0 : ByteArray) (ao : Option Addr) (n cap : Nat) (ps : List (ByteArray × Int × Int)) (k : Nat) (hk : k < ps.length) (hk2 : k < 3) (B : Nat) (w : World) (ho : OwO w B (.slice ao n cap) ps) :
    Calls Tryd.prog 58 #[.agg #[.string s0, .slice ao n cap], .int .i64 (k : Int)] w fun e w' => e = .returned (opw ps[k].1 ps[k].2.1 ps[k].2.2) ∧ Still w w' := by
  obtain ⟨g, cap', e, hB, hg⟩ := ho.head (by omega)
  cases e
  obtain ⟨d0, d1, d2, df⟩ := ho.cell k hk
  have hki : (k : Int) < (ps.length : Int) := by omega
  have HS0 := hid (Still.alloc w (.cells #[.string s0, .slice (some ⟨g, 0, none⟩) ps.length cap] 82))
  obtain ⟨x0, ex0⟩ : ∃ x, ps[k].1 = x := ⟨_, rfl⟩
  obtain ⟨x1, ex1⟩ : ∃ x, ps[k].2.1 = x := ⟨_, rfl⟩
  obtain ⟨x2, ex2⟩ : ∃ x, ps[k].2.2 = x := ⟨_, rfl⟩
  rw [ex0] at d0 ⊢
  rw [ex1] at d1 ⊢
  rw [ex2] at d2 ⊢
  clear ex0 ex1 ex2 ho
  go_enter Tryd.func58, Tryd.ntmps58
  go_wp2_with fail
  have h := newOp_opb (newK w s0 (.slice (some ⟨g, 0, none⟩) ps.length cap)) x0 x1 x2
  rw [sz] at h
  exact bodyPost_ret (h.res rfl _ rfl) rfl ⟨rfl, HS0.out.trans (Still.alloc _ _)⟩
theorem at_out (s0 : ByteArray) (ao : Option Addr) (n cap : Nat) (k : Nat) (hk : n ≤ k) (w : World) :
    Calls Tryd.prog 58 #[.agg #[.string s0, .slice ao n cap], .int .i64 (k : Int)] w fun e w' => e = .returned (opw ByteArray.empty 0 0) ∧ Still w w' := by
  have hki : ¬ (k : Int) < (n : Int) := by omega
  have HS0 := hid (Still.alloc w (.cells #[.string s0, .slice ao n cap] 82))
  go_enter Tryd.func58, Tryd.ntmps58
  go_wp2_with fail
  have h := newOp_opb (newK w s0 (.slice ao n cap)) ByteArray.empty 0 0
  rw [sz] at h
  exact bodyPost_ret (h.res rfl _ rfl) rfl ⟨rfl, HS0.out.trans (Still.alloc _ _)⟩
/-- what a place may hold -/
def rg (ps : List (ByteArray × Int × Int)) (k : Nat) : ByteArray × Int × Int := ps.getD k (ByteArray.empty, 0, 0)
theorem at_any (s0 : ByteArray) (ao : Option Addr) (n cap : Nat) (ps : List (ByteArray × Int × Int)) (k : Nat) (hk2 : k < 3) (B : Nat) (w : World) (ho : OwO w B (.slice ao n cap) ps) :
    Calls Tryd.prog 58 #[.agg #[.string s0, .slice ao n cap], .int .i64 (k : Int)] w fun e w' => e = .returned (opw (rg ps k).1 (rg ps k).2.1 (rg ps k).2.2) ∧ Still w w' := by
  obtain ⟨ao', cap', e, _⟩ := ho.slice
  cases e
  by_cases hk : k < ps.length
  · have e : rg ps k = ps[k] := by unfold rg; simp [hk]
    rw [e]
    exact at_in s0 ao _ cap ps k hk hk2 B w ho
  · have e : rg ps k = (ByteArray.empty, 0, 0) := by unfold rg; rw [List.getD_eq_getElem?_getD, List.getElem?_eq_none (by omega)]; rfl
    rw [e]
    exact at_out s0 ao _ cap k (by omega) w
theorem ix3 (a b c : Int) (k : Nat) (h : k < 3) (w : World) : (Instr.index 85 (n3 a b c) (.int .i64 (k : Int))).run Tryd.prog w = .ok (.int .i64 (gv a b c k)) w := by
  have hs : (sizeOf 3).run Tryd.prog w = .ok 1 w := by go_simp
  have ha : (isAgg 3).run Tryd.prog w = .ok false w := by go_simp
  match k, h with
  | 0, _ => simp [Instr.index, asIntOf, run_underlying Tryd.underlying85, part, hs, ha, gv, Result.andThen]
  | 1, _ => simp [Instr.index, asIntOf, run_underlying Tryd.underlying85, part, hs, ha, gv, Result.andThen]
  | 2, _ => simp [Instr.index, asIntOf, run_underlying Tryd.underlying85, part, hs, ha, gv, Result.andThen]
/-- a number lies in what its place may hold -/
def inr (v : Int) (k : Nat) (n : Int) : Prop := (rg (opV v) k).2.1 ≤ n ∧ n ≤ (rg (opV v) k).2.2
theorem ok_in {v a b c : Int} (hv : isV v = true) : okO v a b c = true ↔ inr v 0 a ∧ inr v 1 b ∧ inr v 2 c := by
  unfold okO inr rg opV
  rw [hv]
  rcases verbs hv with rfl | rfl | rfl | rfl | rfl | rfl | rfl <;> simp [lo, hi, loL, hiL] <;> omega
theorem chk_no {v : Int} (hv : isV v = false) (a b c : Int) : chkO v a b c = 70 := by unfold chkO; rw [hv]; rfl
theorem chk_in0 {v a b c : Int} (hv : isV v = true) (h : ∀ k, k < 3 → inr v k (gv a b c k)) : chkO v a b c = 0 := by
  unfold chkO
  have e : okO v a b c = true := (ok_in hv).2 ⟨h 0 (by omega), h 1 (by omega), h 2 (by omega)⟩
  rw [if_pos hv, if_pos e]
theorem chk_out {v a b c : Int} (hv : isV v = true) {k : Nat} (hk : k < 3) (h : ¬ inr v k (gv a b c k)) : chkO v a b c = 71 := by
  unfold chkO
  rw [if_pos hv, if_neg ?_]
  intro e
  obtain ⟨h0, h1, h2⟩ := (ok_in hv).1 e
  match k, hk, h with
  | 0, _, h => exact h h0
  | 1, _, h => exact h h1
  | 2, _, h => exact h h2
theorem vcheck_no (v a b c : Int) (hv : isV v = false) (w : World) : Calls Tryd.prog 31 #[od v a b c] w fun e w' => e = .returned (.int .i64 70) ∧ Still w w' := by
  have p := newO_orb w v a b c
  have HS0 := hid (Still.alloc w (.cells #[.int .i64 v, .int .i64 a, .int .i64 b, .int .i64 c] 32))
  obtain ⟨c0, c1, c2, c3, cf⟩ := p.cells
  go_enter Tryd.func31, Tryd.ntmps31
  go_wp2_with fail
  refine (kind_any v _).mono ?_
  rintro e w1 ⟨ao, n, cap, rfl, ho, h1⟩
  rw [hv]
  have HS1 := hid ((HS0.out.trans h1).trans (Still.alloc w1 (.cells #[.string (nmV v), .slice ao n cap] 82)))
  clear h1 ho HS0
  go_wp2_with fail
  go_ret
  exact ⟨rfl, HS1.out⟩
set_option maxHeartbeats 4000000 in
theorem vcheck_is (v a b c : Int) (hv : isV v = true) (w : World) : Calls Tryd.prog 31 #[od v a b c] w fun e w' => e = .returned (.int .i64 (chkO v a b c)) ∧ Still w w' := by
  have p := newO_orb w v a b c
  have HS0 := hid (Still.alloc w (.cells #[.int .i64 v, .int .i64 a, .int .i64 b, .int .i64 c] 32))
  have HI := hid (fun h => chk_in0 (a := a) (b := b) (c := c) hv h)
  have HO := hid (fun (k : Nat) (hk : k < 3) h => chk_out (a := a) (b := b) (c := c) hv hk h)
  obtain ⟨c0, c1, c2, c3, cf⟩ := p.cells
  obtain ⟨x, ex⟩ : ∃ x, chkO v a b c = x := ⟨_, rfl⟩
  rw [ex] at HI HO ⊢
  clear ex
  go_enter Tryd.func31, Tryd.ntmps31
  go_wp2_with fail
  refine (kind_any v _).mono ?_
  rintro e w1 ⟨ao, n, cap, rfl, ho, h1⟩
  rw [hv]
  have A1 := Still.alloc w1 (.cells #[.string (nmV v), .slice ao n cap] 82)
  have p1 := (p.still h1).still A1
  have q1 := newK_kb w1 (nmV v) (.slice ao n cap)
  have HW := hid (ho.still A1)
  have HS1 := hid ((HS0.out.trans h1).trans A1)
  have hb1 : w1.heap.size = w1.heap.size := rfl
  clear h1 ho HS0 A1 p hb1 c0 c1 c2 c3 cf hv
  obtain ⟨c0, c1, c2, c3, cf⟩ := p1.cells
  go_wp2_with fail
  refine (numbers_any v a b c _).mono ?_
  rintro e w2 ⟨rfl, h2⟩
  have q2 := q1.still h2
  have HW2 := hid (HW.out.still h2)
  have HS2 := hid (HS1.out.trans h2)
  clear h2 HS1 HW q1 p1 c0 c1 c2 c3 cf
  go_wp2_with fail
  go_loopw [18] (fun i wr => ∃ k : Nat, k ≤ 3 ∧ i = .int .i64 (k : Int) ∧ Hid (∀ j, j < k → inr v j (gv a b c j)) ∧ Still w2 wr) (fun i _ => 3 - (intOf i).toNat)
  case atStart => exact ⟨0, by omega, rfl, hid (fun j h => by omega), Fr.refl _ _⟩
  case round =>
    obtain ⟨k, hk, rfl, HF, hs⟩ := hrel
    have q3 := q2.still hs
    have HW3 := hid (HW2.out.still hs)
    have HS3 := hid (HS2.out.trans hs)
    have HSr := hid hs
    clear hs HS2 HW2 q2
    obtain ⟨k0, k1, kf⟩ := q3.cells
    by_cases h3 : k < 3
    · have hix := ix3 a b c k h3
      have hki : (k : Int) < 3 := by omega
      have HA := hid (at_any (nmV v) ao n cap (opV v) k h3 _ wr HW3.out)
      have HE : Hid ((rg (opV v) k).2.1 ≤ gv a b c k → gv a b c k ≤ (rg (opV v) k).2.2 → ∀ j, j < k + 1 → inr v j (gv a b c j)) := hid (fun y1 y2 j hj => by
        by_cases e : j = k
        · subst e; exact ⟨y1, y2⟩
        · exact HF.out j (by omega))
      have HX : Hid (¬ ((rg (opV v) k).2.1 ≤ gv a b c k ∧ gv a b c k ≤ (rg (opV v) k).2.2) → x = 71) := hid (HO.out k h3)
      obtain ⟨y, ey⟩ : ∃ y, gv a b c k = y := ⟨_, rfl⟩
      obtain ⟨r0, er0⟩ : ∃ y, (rg (opV v) k).1 = y := ⟨_, rfl⟩
      obtain ⟨r1, er1⟩ : ∃ y, (rg (opV v) k).2.1 = y := ⟨_, rfl⟩
      obtain ⟨r2, er2⟩ : ∃ y, (rg (opV v) k).2.2 = y := ⟨_, rfl⟩
      rw [er0, er1, er2] at HA
      rw [er1, er2, ey] at HE HX
      rw [ey] at hix
      clear er0 er1 er2 ey HF
      go_wp2_with fail
      refine HA.out.mono ?_
      rintro e w4 ⟨rfl, h4⟩
      have o4 := newOp_opb w4 r0 r1 r2
      have A4 := Still.alloc w4 (.cells #[.string r0, .int .i64 r1, .int .i64 r2] 88)
      have HS4 := hid ((HS3.out.trans h4).trans A4)
      have HR4 := hid ((HSr.out.trans h4).trans A4)
      obtain ⟨d0, d1, d2, df⟩ := o4.cells
      clear h4 A4 HS3 HSr HA HW3 hix
      by_cases g1 : y < r1
      · go_wp2_with fail
        go_ret
        exact ⟨by rw [HX.out (by omega)]; rfl, HS4.out⟩
      · by_cases g2 : r2 < y
        · go_wp2_with fail
          go_ret
          exact ⟨by rw [HX.out (by omega)]; rfl, HS4.out⟩
        · have g3 : ¬ y > r2 := g2
          go_wp2_with fail
          go_roundw
          case measure => simp [intOf]; omega
          case rel => exact ⟨k + 1, by omega, by simp, hid (HE.out (by omega) (by omega)), HR4.out⟩
    · obtain rfl : k = 3 := by omega
      have e := HI.out HF.out
      go_wp2_with fail
      go_ret
      exact ⟨by rw [e]; rfl, HS3.out⟩
theorem vcheck_any (v a b c : Int) (w : World) : Calls Tryd.prog 31 #[od v a b c] w fun e w' => e = .returned (.int .i64 (chkO v a b c)) ∧ Still w w' := by
  cases hv : isV v with
  | true => exact vcheck_is v a b c hv w
  | false => rw [chk_no hv]; exact vcheck_no v a b c hv w
end Go.Proofs.YtaalbkmdmocdeaaDoor
