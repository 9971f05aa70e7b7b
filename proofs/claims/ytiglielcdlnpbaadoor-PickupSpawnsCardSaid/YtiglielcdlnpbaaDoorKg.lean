/- What the laws ask of the program's functions on pickups, as one bundle; the examples; the laws but one. -/
import Derived.Test.YtiglielcdlnpbaaDoorKd
import Derived.Test.YtiglielcdlnpbaaDoorKe
import Derived.Test.YtiglielcdlnpbaaDoorKf
import Derived.Test.YtiglielcdlnpbaaDoorK8
namespace Go.Proofs.YtiglielcdlnpbaaDoor
open Go.RowKit
open Pu Gp Np Ka
set_option maxRecDepth 100000

/-- a number that an int holds -/
def InI (x : Int) : Prop := -9223372036854775808 ≤ x ∧ x ≤ 9223372036854775807
def InK (L : List Pk) : Prop := ∀ i, InI (pk L i).no ∧ InI (pk L i).sp ∧ InI (pk L i).kd
theorem InK.nil : InK [] := fun i => by
  have e : pk [] i = zK := by simp [pk]
  rw [e]
  exact ⟨⟨by decide, by decide⟩, ⟨by decide, by decide⟩, by decide, by decide⟩
/-- The program's functions answer as the plain words say, in whatever world follows w. -/
structure Cts10 (w : World) : Prop where
  chk : ∀ (L : List Pk) (s : Int) (ao : Option Addr) (n cap : Nat) (u : World), InI s → InK L → RdK u ao n L → n ≤ cap → Still w u → Calls Tryd.prog 10 #[.slice ao n cap, .int .i64 s] u fun e w' => e = .returned (.int .i64 (chkK L s)) ∧ Still u w'
  spw : ∀ (q f s no : Int) (L : List Pk) (ao : Option Addr) (n cap : Nat) (u : World), 0 ≤ q ∧ q < 18446744073709551616 → InI f → InI s → InI no → InK L → RdK u ao n L → n ≤ cap → Still w u → Calls Tryd.prog 13 #[.int .u64 q, .int .i64 f, .slice ao n cap, .int .i64 s, .int .i64 no] u fun e w' => e = .returned (.tuple #[kv (spwn q f L s no), .bool (comes L f s no), .int .i64 (errK L f s no)]) ∧ Still u w'
  tak : ∀ (m : Mv) (k : Int) (u : World), InI k → Still w u → Calls Tryd.prog 15 #[mv m, .int .i64 k] u fun e w' => e = .returned (.tuple #[mv (takM m k), .int .i64 (takP m k), .int .i64 (errT m k)]) ∧ Still u w'
theorem Cts10.still {w w' : World} (h : Cts10 w) (hs : Still w w') : Cts10 w' :=
  ⟨fun L s ao n cap u a b c d k => h.chk L s ao n cap u a b c d (hs.trans k), fun q f s no L ao n cap u a b c d e g i k => h.spw q f s no L ao n cap u a b c d e g i (hs.trans k), fun m k u a b => h.tak m k u a (hs.trans b)⟩
theorem a10_start : startM 0 0 0 = ⟨0, 0, 0, 0, 0, 0, 0, 100, 50, false, 0, 0, 0⟩ := by kernel_rfl
theorem a10_one : takM ⟨0, 0, 0, 0, 0, 0, 0, 80, 50, false, 0, 0, 0⟩ 1 = ⟨0, 0, 0, 0, 0, 0, 0, 100, 50, false, 0, 0, 0⟩ ∧ takP ⟨0, 0, 0, 0, 0, 0, 0, 80, 50, false, 0, 0, 0⟩ 1 = 0 ∧ errT ⟨0, 0, 0, 0, 0, 0, 0, 80, 50, false, 0, 0, 0⟩ 1 = 0 := ⟨by kernel_rfl, by kernel_rfl, by kernel_rfl⟩
theorem a10_three : takM ⟨0, 0, 0, 0, 0, 0, 0, 80, 50, false, 0, 0, 0⟩ 3 = ⟨0, 0, 0, 0, 0, 0, 0, 80, 50, false, 0, 0, 0⟩ ∧ takP ⟨0, 0, 0, 0, 0, 0, 0, 80, 50, false, 0, 0, 0⟩ 3 = 5 ∧ errT ⟨0, 0, 0, 0, 0, 0, 0, 80, 50, false, 0, 0, 0⟩ 3 = 0 := ⟨by kernel_rfl, by kernel_rfl, by kernel_rfl⟩
theorem a10_come : comes [] 16 1 9 = true ∧ errK [] 16 1 9 = 0 := ⟨by kernel_rfl, by kernel_rfl⟩
theorem a10_spwn : spwn 7 16 [] 1 9 = ⟨9, 0, kindK 7 16⟩ := by
  unfold spwn
  rw [if_pos a10_come.1]
  have e : fre [] (1 : Int).toNat = [0] := by kernel_rfl
  have e2 : spotK 7 16 [] 1 = 0 := by
    unfold spotK
    rw [e]
    unfold bel
    simp [Int.emod_one]
  rw [e2]
theorem a10_chk : chkK [] (-1) = 100 := chkK_no (fun h => by have := h.1; omega)
set_option maxHeartbeats 4000000 in
theorem awake10_any (w : World) (C : Cts10 w) : Calls Tryd.prog 8 #[] w fun e w' => e = .returned (.bool true) ∧ Still w w' := by
  go_enter Tryd.func8, Tryd.ntmps8
  go_wp2_with fail
  refine (C.spw 7 16 1 9 [] none 0 0 _ ⟨by decide, by decide⟩ ⟨by decide, by decide⟩ ⟨by decide, by decide⟩ ⟨by decide, by decide⟩ InK.nil (RdK.nil _ _) (Nat.le_refl _) (Fr.refl _ _)).mono ?_
  rintro e w1 ⟨rfl, h1⟩
  rw [a10_spwn, a10_come.1, a10_come.2]
  obtain ⟨kd, ek⟩ : ∃ k, kindK 7 16 = k := ⟨_, rfl⟩
  rw [ek]
  clear ek
  have b1 := newK_kb w1 ⟨9, 0, kd⟩
  have HS1 := hid (h1.trans (Still.alloc w1 (.cells (kcs ⟨9, 0, kd⟩) 33)))
  clear h1
  go_wp2_with fail
  refine (rstart_any 0 0 0 _).mono ?_
  rintro e w2 ⟨rfl, h2⟩
  rw [a10_start]
  have A2 := Still.alloc w2 (.cells (mcs ⟨0, 0, 0, 0, 0, 0, 0, 100, 50, false, 0, 0, 0⟩) 40)
  have b2 := (b1.still h2).still A2
  have m2 := newM_mb w2 ⟨0, 0, 0, 0, 0, 0, 0, 100, 50, false, 0, 0, 0⟩
  have HS2 := hid ((HS1.out.trans h2).trans A2)
  have HN := hid (show w1.heap.size < w2.heap.size by have := block_lt (b1.still h2); omega)
  have hg2 : w.heap.size ≤ w2.heap.size := (HS1.out.trans h2).size
  have m3 := m2.hl 80
  have b3 := b2.other w2.heap.size 7 (.int .i64 80) (by have := HN.out; omega)
  have HS3 := hid (setC_fr HS2.out w2.heap.size 7 (.int .i64 80) hg2)
  clear h2 A2 HS1 b1 HS2
  obtain ⟨c0, c1, c2, c3, c4, c5, c6, c7, c8, c9, c10, c11, c12, cf⟩ := m2.cells
  obtain ⟨W, eW⟩ : ∃ W, (w2.alloc (.cells #[.int .i64 0, .int .i64 0, .int .i64 0, .int .i64 0, .int .i64 0, .int .i64 0, .int .i64 0, .int .i64 100, .int .i64 50, .bool false, .int .i64 0, .int .i64 0, .int .i64 0] 40)).setCell ⟨w2.heap.size, 7, none⟩ (.int .i64 80) = W := ⟨_, rfl⟩
  have m4 : Mb W w2.heap.size ⟨0, 0, 0, 0, 0, 0, 0, 80, 50, false, 0, 0, 0⟩ := by rw [← eW]; exact m3
  have b4 : Kb W w1.heap.size ⟨9, 0, kd⟩ := by rw [← eW]; exact b3
  have HS4 : Hid (Still w W) := hid (by rw [← eW]; exact HS3.out)
  clear m3 b3 HS3 b2
  go_upto_region 4 with fail
  clear eW c0 c1 c2 c3 c4 c5 c6 c7 c8 c9 c10 c11 c12 cf m2
  obtain ⟨c0, c1, c2, c3, c4, c5, c6, c7, c8, c9, c10, c11, c12, cf⟩ := m4.cells
  go_wp2_with fail
  refine (C.tak ⟨0, 0, 0, 0, 0, 0, 0, 80, 50, false, 0, 0, 0⟩ 1 _ ⟨by decide, by decide⟩ HS4.out).mono ?_
  rintro e w5 ⟨rfl, h5⟩
  rw [a10_one.1, a10_one.2.1, a10_one.2.2]
  have A5 := Still.alloc w5 (.cells (mcs ⟨0, 0, 0, 0, 0, 0, 0, 100, 50, false, 0, 0, 0⟩) 40)
  have m5 := (m4.still h5).still A5
  have b5 := (b4.still h5).still A5
  have n5 := newM_mb w5 ⟨0, 0, 0, 0, 0, 0, 0, 100, 50, false, 0, 0, 0⟩
  have HS5 := hid ((HS4.out.trans h5).trans A5)
  clear h5 A5 HS4 m4 b4 c0 c1 c2 c3 c4 c5 c6 c7 c8 c9 c10 c11 c12 cf
  obtain ⟨c0, c1, c2, c3, c4, c5, c6, c7, c8, c9, c10, c11, c12, cf⟩ := m5.cells
  go_wp2_with fail
  refine (C.tak ⟨0, 0, 0, 0, 0, 0, 0, 80, 50, false, 0, 0, 0⟩ 3 _ ⟨by decide, by decide⟩ HS5.out).mono ?_
  rintro e w6 ⟨rfl, h6⟩
  rw [a10_three.1, a10_three.2.1, a10_three.2.2]
  have A6 := Still.alloc w6 (.cells (mcs ⟨0, 0, 0, 0, 0, 0, 0, 80, 50, false, 0, 0, 0⟩) 40)
  have n6 := (n5.still h6).still A6
  have b6 := (b5.still h6).still A6
  have HS6 := hid ((HS5.out.trans h6).trans A6)
  clear h6 A6 HS5 m5 b5 n5 c0 c1 c2 c3 c4 c5 c6 c7 c8 c9 c10 c11 c12 cf
  obtain ⟨c0, c1, c2, c3, c4, c5, c6, c7, c8, c9, c10, c11, c12, cf⟩ := n6.cells
  obtain ⟨d0, d1, d2, df⟩ := b6.cells
  go_wp2_with fail
  refine (C.chk [] (-1) none 0 0 _ ⟨by decide, by decide⟩ InK.nil (RdK.nil _ _) (Nat.le_refl _) HS6.out).mono ?_
  rintro e w7 ⟨rfl, h7⟩
  rw [a10_chk]
  have HS7 := hid (HS6.out.trans h7)
  clear h7 HS6 n6 b6 c0 c1 c2 c3 c4 c5 c6 c7 c8 c9 c10 c11 c12 cf d0 d1 d2 df
  go_wp2_with fail
  go_ret
  exact ⟨rfl, HS7.out⟩
set_option maxHeartbeats 1000000 in
theorem checks10_law (so : Option Addr) (n c : Nat) (L : List Pk) (s : Int) (hs : InI s) (hL : InK L) (hc : so = none → c = 0) (h47 : 24 * (n + 2) ≤ 281474976710656) (w : World) (hr : RdK w so n L) (C : Cts10 w) : Calls Tryd.prog 3 #[.slice so n c, .int .i64 s] w fun e w' => e = .returned (.bool true) ∧ Still w w' := by
  have HH := hid (And.intro hs (And.intro hL (And.intro hc h47)))
  have HR := hid hr
  clear hs hL hc h47 hr
  go_enter Tryd.func3, Tryd.ntmps3
  go_wp2_with fail
  refine (awake10_any _ C).mono ?_
  rintro e w1 ⟨rfl, h1⟩
  have HS1 := hid h1
  clear h1
  go_wp2_with fail
  refine (lentK_any so n c L _ (HR.out.still HS1.out) HH.out.2.2.1 HH.out.2.2.2).mono ?_
  rintro e w2 ⟨g, rfl, ho, h2⟩
  have HS2 := hid (HS1.out.trans h2)
  have HO := hid ho
  clear h2 ho HS1
  go_wp2_with fail
  have HRo : Hid (RdK w2 (some ⟨g, 0, none⟩) n L) := hid (by have h := HO.out.rd (by rw [HR.out.1]; exact HR.out.2.1); rw [HR.out.1] at h; exact h)
  refine (C.chk L s _ n (n + 2) _ HH.out.1 HH.out.2.1 HRo.out (by omega) HS2.out).mono ?_
  rintro e w3 ⟨rfl, h3⟩
  have HS3 := hid (HS2.out.trans h3)
  have HO3 := hid (HO.out.still h3)
  clear h3 HS2 HO HRo
  obtain ⟨E, eE⟩ : ∃ E, chkK L s = E := ⟨_, rfl⟩
  rw [eE]
  have HE := hid eE
  clear eE
  go_wp2_with fail
  refine (stillK_any g so n c L _ _ (HR.out.still HS3.out) HO3.out HH.out.2.2.2).mono ?_
  rintro e w4 ⟨rfl, h4⟩
  have HS4 := hid (HS3.out.trans h4)
  clear h4 HS3 HO3
  go_wp2_with fail
  refine (rchk10_any L s so n c _ (HR.out.still HS4.out)).mono ?_
  rintro e w5 ⟨rfl, h5⟩
  have HS5 := hid (HS4.out.trans h5)
  rw [HE.out]
  clear h5 HS4
  go_wp2_with fail
  go_ret
  exact ⟨rfl, HS5.out⟩
/-- a question's cells -/
abbrev qcs (q f s no : Int) : Array Value := #[.int .u64 q, .int .i64 f, .int .i64 s, .int .i64 no]
def Qb (w : World) (g : Nat) (q f s no : Int) : Prop := w.heap[g]? = some (.cells (qcs q f s no) 31 (0, 0))
theorem Qb.still {w w' : World} {g : Nat} {q f s no : Int} (h : Qb w g q f s no) (hs : Still w w') : Qb w' g q f s no := hs.kept_still h
theorem Qb.cells {w : World} {g : Nat} {q f s no : Int} (h : Qb w g q f s no) : w.cell? ⟨g, 0, none⟩ = some (.int .u64 q) ∧ w.cell? ⟨g, 1, none⟩ = some (.int .i64 f) ∧ w.cell? ⟨g, 2, none⟩ = some (.int .i64 s) ∧ w.cell? ⟨g, 3, none⟩ = some (.int .i64 no) ∧ ∀ o, w.frozen? ⟨g, o, none⟩ = false := by
  refine ⟨?_, ?_, ?_, ?_, fun o => frozen_of_row w g o _ _ h⟩ <;> (rw [cell_of_row _ _ _ _ _ _ h]; rfl)
theorem newQ_qb (w : World) (q f s no : Int) : Qb (w.alloc (.cells (qcs q f s no) 31)) w.heap.size q f s no := heap_alloc_new w _
def InQ (q f s no : Int) : Prop := (0 ≤ q ∧ q < 18446744073709551616) ∧ InI f ∧ InI s ∧ InI no
set_option maxHeartbeats 2000000 in
theorem spawns_law (so : Option Addr) (n c : Nat) (L : List Pk) (q f s no : Int) (hq : InQ q f s no) (hL : InK L) (hc : so = none → c = 0) (h47 : 24 * (n + 2) ≤ 281474976710656) (w : World) (hr : RdK w so n L) (C : Cts10 w) : Calls Tryd.prog 4 #[.slice so n c, .agg (qcs q f s no)] w fun e w' => e = .returned (.bool true) ∧ Still w w' := by
  have HH := hid (And.intro hq (And.intro hL (And.intro hc h47)))
  have A0 := Still.alloc w (.cells (qcs q f s no) 31)
  have p0 := newQ_qb w q f s no
  have HS0 := hid A0
  have HR := hid hr
  have G1 := guard_kv
  clear hq hL hc h47 hr A0
  go_enter Tryd.func4, Tryd.ntmps4
  go_wp2_with fail
  refine (awake10_any _ (C.still HS0.out)).mono ?_
  rintro e w1 ⟨rfl, h1⟩
  have p1 := p0.still h1
  have HS1 := hid (HS0.out.trans h1)
  clear h1 HS0 p0
  go_wp2_with fail
  refine (lentK_any so n c L _ (HR.out.still HS1.out) HH.out.2.2.1 HH.out.2.2.2).mono ?_
  rintro e w2 ⟨g, rfl, ho, h2⟩
  have p2 := p1.still h2
  have HS2 := hid (HS1.out.trans h2)
  have HO := hid ho
  clear h2 ho HS1 p1
  obtain ⟨c0, c1, c2, c3, cf⟩ := p2.cells
  go_wp2_with fail
  have HRo : Hid (RdK w2 (some ⟨g, 0, none⟩) n L) := hid (by have h := HO.out.rd (by rw [HR.out.1]; exact HR.out.2.1); rw [HR.out.1] at h; exact h)
  refine (C.spw q f s no L _ n (n + 2) _ HH.out.1.1 HH.out.1.2.1 HH.out.1.2.2.1 HH.out.1.2.2.2 HH.out.2.1 HRo.out (by omega) HS2.out).mono ?_
  rintro e w3 ⟨rfl, h3⟩
  have HF := hid (fun u hu => rspawn_any q f s no L so n c u hu)
  obtain ⟨X, eX⟩ : ∃ X, spwn q f L s no = X := ⟨_, rfl⟩
  obtain ⟨D, eD⟩ : ∃ X, comes L f s no = X := ⟨_, rfl⟩
  obtain ⟨E, eE⟩ : ∃ X, errK L f s no = X := ⟨_, rfl⟩
  rw [eX, eD, eE] at HF ⊢
  clear eX eD eE
  have E1 := eql_kv_t X
  have A3 := Still.alloc w3 (.cells (kcs X) 33)
  have p3 := (p2.still h3).still A3
  have x3 := newK_kb w3 X
  have HS3 := hid ((HS2.out.trans h3).trans A3)
  have HO3 := hid ((HO.out.still h3).still A3)
  clear h3 A3 HS2 HO HRo p2 c0 c1 c2 c3 cf
  obtain ⟨c0, c1, c2, c3, cf⟩ := p3.cells
  go_wp2_with fail
  refine (HF.out _ (HR.out.still HS3.out)).mono ?_
  rintro e w4 ⟨rfl, h4⟩
  have A4 := Still.alloc w4 (.cells (kcs X) 33)
  have x4 := (x3.still h4).still A4
  have y4 := newK_kb w4 X
  have HS4 := hid ((HS3.out.trans h4).trans A4)
  have HO4 := hid ((HO3.out.still h4).still A4)
  clear h4 A4 HS3 HO3 p3 x3 HF c0 c1 c2 c3 cf
  go_wp2_with fail
  refine (stillK_any g so n c L _ _ (HR.out.still HS4.out) HO4.out HH.out.2.2.2).mono ?_
  rintro e w5 ⟨rfl, h5⟩
  have HS5 := hid (HS4.out.trans h5)
  have x5 := x4.still h5
  have y5 := y4.still h5
  clear h5 HS4 HO4 x4 y4
  obtain ⟨c0, c1, c2, cf⟩ := x5.cells
  obtain ⟨d0, d1, d2, df⟩ := y5.cells
  go_wp2_with fail
  go_ret
  exact ⟨rfl, HS5.out⟩
set_option maxHeartbeats 2000000 in
theorem takes_law (m : Mv) (k : Int) (hk : InI k) (w : World) (C : Cts10 w) : Calls Tryd.prog 5 #[mv m, .int .i64 k] w fun e w' => e = .returned (.bool true) ∧ Still w w' := by
  have A0 := Still.alloc w (.cells (mcs m) 40)
  have p0 := newM_mb w m
  have HS0 := hid A0
  have HK := hid hk
  have G1 := guard_mv
  clear hk A0
  go_enter Tryd.func5, Tryd.ntmps5
  go_wp2_with fail
  refine (awake10_any _ (C.still HS0.out)).mono ?_
  rintro e w1 ⟨rfl, h1⟩
  have p1 := p0.still h1
  have HS1 := hid (HS0.out.trans h1)
  clear h1 HS0 p0
  obtain ⟨c0, c1, c2, c3, c4, c5, c6, c7, c8, c9, c10, c11, c12, cf⟩ := p1.cells
  go_wp2_with fail
  refine (C.tak m k _ HK.out HS1.out).mono ?_
  rintro e w2 ⟨rfl, h2⟩
  have HF := hid (fun u => rtake_any m k u)
  obtain ⟨X, eX⟩ : ∃ X, takM m k = X := ⟨_, rfl⟩
  obtain ⟨D, eD⟩ : ∃ X, takP m k = X := ⟨_, rfl⟩
  obtain ⟨E, eE⟩ : ∃ X, errT m k = X := ⟨_, rfl⟩
  rw [eX, eD, eE] at HF ⊢
  clear eX eD eE
  have E1 := eql_mv_t X
  have A2 := Still.alloc w2 (.cells (mcs X) 40)
  have p2 := (p1.still h2).still A2
  have x2 := newM_mb w2 X
  have HS2 := hid ((HS1.out.trans h2).trans A2)
  clear h2 A2 HS1 p1 c0 c1 c2 c3 c4 c5 c6 c7 c8 c9 c10 c11 c12 cf
  obtain ⟨c0, c1, c2, c3, c4, c5, c6, c7, c8, c9, c10, c11, c12, cf⟩ := p2.cells
  go_wp2_with fail
  refine (HF.out _).mono ?_
  rintro e w3 ⟨rfl, h3⟩
  have A3 := Still.alloc w3 (.cells (mcs X) 40)
  have x3 := (x2.still h3).still A3
  have y3 := newM_mb w3 X
  have HS3 := hid ((HS2.out.trans h3).trans A3)
  clear h3 A3 HS2 p2 x2 HF c0 c1 c2 c3 c4 c5 c6 c7 c8 c9 c10 c11 c12 cf
  obtain ⟨c0, c1, c2, c3, c4, c5, c6, c7, c8, c9, c10, c11, c12, cf⟩ := x3.cells
  obtain ⟨k0, k1, k2, k3, k4, k5, k6, k7, k8, k9, k10, k11, k12, kf⟩ := y3.cells
  go_wp2_with fail
  go_ret
  exact ⟨rfl, HS3.out⟩
set_option maxHeartbeats 2000000 in
theorem helps_law (m : Mv) (k : Int) (hk : InI k) (w : World) (C : Cts10 w) : Calls Tryd.prog 7 #[mv m, .int .i64 k] w fun e w' => e = .returned (.bool true) ∧ Still w w' := by
  have A0 := Still.alloc w (.cells (mcs m) 40)
  have p0 := newM_mb w m
  have HS0 := hid A0
  have HK := hid hk
  have G1 := guard_mv
  clear hk A0
  go_enter Tryd.func7, Tryd.ntmps7
  go_wp2_with fail
  refine (awake10_any _ (C.still HS0.out)).mono ?_
  rintro e w1 ⟨rfl, h1⟩
  have p1 := p0.still h1
  have HS1 := hid (HS0.out.trans h1)
  clear h1 HS0 p0
  obtain ⟨c0, c1, c2, c3, c4, c5, c6, c7, c8, c9, c10, c11, c12, cf⟩ := p1.cells
  go_wp2_with fail
  refine (C.tak m k _ HK.out HS1.out).mono ?_
  rintro e w2 ⟨rfl, h2⟩
  by_cases he : errT m k = 0
  · obtain ⟨g1, g2, g3, g4⟩ := helps he
    have HC := hid (fun u => check8_any m u)
    rw [show chkM m = 0 by unfold chkM; rw [mayB_iff.2 (errT_ok he).1]; rfl] at HC
    rw [he]
    obtain ⟨X, eX⟩ : ∃ X, takM m k = X := ⟨_, rfl⟩
    obtain ⟨D, eD⟩ : ∃ X, takP m k = X := ⟨_, rfl⟩
    rw [eX] at g1 g2 g4 ⊢
    rw [eD] at g3 ⊢
    clear eX eD he
    have g1' : X.hl ≥ m.hl := g1
    have g2' : X.en ≥ m.en := g2
    have g3' : D ≥ 0 := g3
    have A2 := Still.alloc w2 (.cells (mcs X) 40)
    have p2 := (p1.still h2).still A2
    have x2 := newM_mb w2 X
    have HS2 := hid ((HS1.out.trans h2).trans A2)
    have HN := hid (show w.heap.size < w2.heap.size by have := block_lt (p1.still h2); omega)
    have hg2 : w.heap.size ≤ w2.heap.size := Nat.le_of_lt HN.out
    have x3 := (x2.hl m.hl).en m.en
    have p3 := (p2.other w2.heap.size 7 (.int .i64 m.hl) (by have := HN.out; omega)).other w2.heap.size 8 (.int .i64 m.en) (by have := HN.out; omega)
    have HS3 := hid (setC_fr (setC_fr HS2.out w2.heap.size 7 (.int .i64 m.hl) hg2) w2.heap.size 8 (.int .i64 m.en) hg2)
    rw [g4] at x3
    obtain ⟨W2, eW2⟩ : ∃ W, w2.alloc (.cells (mcs X) 40) = W := ⟨_, rfl⟩
    rw [eW2] at p2
    have x2' : Mb W2 w2.heap.size X := by rw [← eW2]; exact x2
    have x3' : Mb ((W2.setCell ⟨w2.heap.size, 7, none⟩ (.int .i64 m.hl)).setCell ⟨w2.heap.size, 8, none⟩ (.int .i64 m.en)) w2.heap.size m := by rw [← eW2]; exact x3
    rw [eW2] at p3 HS3
    clear h2 A2 HS1 p1 c0 c1 c2 c3 c4 c5 c6 c7 c8 c9 c10 c11 c12 cf x2 x3 g4 HS2
    go_upto_region 3 with fail
    clear eW2
    obtain ⟨c0, c1, c2, c3, c4, c5, c6, c7, c8, c9, c10, c11, c12, cf⟩ := p2.cells
    obtain ⟨k0, k1, k2, k3, k4, k5, k6, k7, k8, k9, k10, k11, k12, kf⟩ := x2'.cells
    obtain ⟨W3, eW3⟩ : ∃ W, (W2.setCell ⟨w2.heap.size, 7, none⟩ (.int .i64 m.hl)).setCell ⟨w2.heap.size, 8, none⟩ (.int .i64 m.en) = W := ⟨_, rfl⟩
    rw [eW3] at p3 HS3 x3'
    have E1 := eql_mv_t m
    go_upto_region 8 with fail
    clear eW3 p2 x2' c0 c1 c2 c3 c4 c5 c6 c7 c8 c9 c10 c11 c12 cf k0 k1 k2 k3 k4 k5 k6 k7 k8 k9 k10 k11 k12 kf
    obtain ⟨c0, c1, c2, c3, c4, c5, c6, c7, c8, c9, c10, c11, c12, cf⟩ := p3.cells
    obtain ⟨k0, k1, k2, k3, k4, k5, k6, k7, k8, k9, k10, k11, k12, kf⟩ := x3'.cells
    go_wp2_with fail
    refine (HC.out _).mono ?_
    rintro e w4 ⟨rfl, h4⟩
    have HS4 := hid (HS3.out.trans h4)
    clear h4 HS3 HC c0 c1 c2 c3 c4 c5 c6 c7 c8 c9 c10 c11 c12 cf k0 k1 k2 k3 k4 k5 k6 k7 k8 k9 k10 k11 k12 kf p3 x3'
    go_wp2_with fail
    go_ret
    exact ⟨rfl, HS4.out⟩
  · have e1 : takM m k = zM := by unfold takM; rw [if_neg he]
    have e2 : takP m k = 0 := by unfold takP; rw [if_neg (fun h => he h.1)]
    rw [e1, e2]
    obtain ⟨E, eE⟩ : ∃ X, errT m k = X := ⟨_, rfl⟩
    rw [eE] at he ⊢
    have he' : (E == 0) = false := by simpa using he
    clear eE e1 e2
    have A2 := Still.alloc w2 (.cells (mcs zM) 40)
    have x2 := newM_mb w2 zM
    have HS2 := hid ((HS1.out.trans h2).trans A2)
    have E1 : ∀ w, (binOp .eql 40 (.agg #[.int .i64 0, .int .i64 0, .int .i64 0, .int .i64 0, .int .i64 0, .int .i64 0, .int .i64 0, .int .i64 0, .int .i64 0, .bool false, .int .i64 0, .int .i64 0, .int .i64 0]) (.agg #[.int .i64 0, .int .i64 0, .int .i64 0, .int .i64 0, .int .i64 0, .int .i64 0, .int .i64 0, .int .i64 0, .int .i64 0, .bool false, .int .i64 0, .int .i64 0, .int .i64 0])).run Tryd.prog w = .ok (.bool true) w := eql_mv_t zM
    clear h2 A2 HS1 p1 c0 c1 c2 c3 c4 c5 c6 c7 c8 c9 c10 c11 c12 cf
    obtain ⟨c0, c1, c2, c3, c4, c5, c6, c7, c8, c9, c10, c11, c12, cf⟩ := x2.cells
    go_wp2_with fail
    go_ret
    exact ⟨rfl, HS2.out⟩
end Go.Proofs.YtiglielcdlnpbaaDoor
