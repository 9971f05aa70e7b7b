/- Parts of the proof, laid end to end. -/
import Derived.Test.YthcjckgmdokmdaaGreatDoorXS12
import Derived.Test.YthcjckgmdokmdaaGreatDoorXS14
import Derived.Test.YthcjckgmdokmdaaGreatDoorXS16
namespace Go.Proofs.YthcjckgmdokmdaaGreatDoor
open Go.RowKit
open Pu Gp Ap Vp Np Za Ka Ja Ea Ha Hg Hi
set_option maxRecDepth 100000
abbrev sec (S : Se) : Array Value := #[.int .i64 S.F.p, .int .u64 S.F.q, .int .i64 S.F.C, .int .i64 S.F.R, .string S.F.s, S.F.lg, S.st, S.sp]
def Seb (w : World) (g : Nat) (S : Se) : Prop := w.heap[g]? = some (.cells (sec S) 101 (0, 0))
theorem Seb.still {w w' : World} {g : Nat} {S : Se} (h : Seb w g S) (hs : Still w w') : Seb w' g S := hs.kept_still h
theorem Seb.cells {w : World} {g : Nat} {S : Se} (h : Seb w g S) : w.cell? ⟨g, 0, none⟩ = some (.int .i64 S.F.p) /\ w.cell? ⟨g, 1, none⟩ = some (.int .u64 S.F.q) /\ w.cell? ⟨g, 2, none⟩ = some (.int .i64 S.F.C) /\ w.cell? ⟨g, 3, none⟩ = some (.int .i64 S.F.R) /\ w.cell? ⟨g, 4, none⟩ = some (.string S.F.s) /\ w.cell? ⟨g, 5, none⟩ = some S.F.lg /\ w.cell? ⟨g, 6, none⟩ = some S.st /\ w.cell? ⟨g, 7, none⟩ = some S.sp /\ ∀ o, w.frozen? ⟨g, o, none⟩ = false := by
 refine ⟨?_, ?_, ?_, ?_, ?_, ?_, ?_, ?_, fun o => frozen_of_row w g o _ _ h⟩ <;> (rw [cell_of_row _ _ _ _ _ _ h]; rfl)
theorem newSe_sb (w : World) (S : Se) : Seb (w.alloc (.cells (sec S) 101)) w.heap.size S := heap_alloc_new w _
end Go.Proofs.YthcjckgmdokmdaaGreatDoor
namespace Go.Proofs.YthcjckgmdokmdaaGreatDoor
open Go.RowKit
open Pu Gp Ap Vp Np Za Ka Ja Ea Ha Hg Hi
set_option maxRecDepth 100000
structure Q13 (x : World) (F : Cf) (v : Int) (st sp : List (Int × Int)) : Prop where
 chk : ∀ u : World, Still x u -> Calls Tryz.prog 89 #[ar F.C F.R F.s] u fun e w' => e = .returned (.int .i64 v) /\ Still u w'
 sts : ∀ u : World, Still x u -> Calls Tryz.prog 90 #[ar F.C F.R F.s] u fun e w' => ∃ a, e = .returned a /\ OwG KT 54 w' u.heap.size a st /\ Still u w'
 sps : ∀ u : World, Still x u -> Calls Tryz.prog 43 #[ar F.C F.R F.s] u fun e w' => ∃ a, e = .returned a /\ OwG KT 54 w' u.heap.size a sp /\ Still u w'
theorem ses_load {w : World} {g : Nat} {p q C R : Int} {s : ByteArray} {lo ao bo : Option Addr} {ln lc an ac bn bc : Nat} (h : w.heap[g]? = some (.cells #[.int .i64 p, .int .u64 q, .int .i64 C, .int .i64 R, .string s, .slice lo ln lc, .slice ao an ac, .slice bo bn bc] 101 (0, 0))) : (loadVar 101 ⟨g, 0, none⟩).run Tryz.prog w = .ok (.agg #[.int .i64 p, .int .u64 q, .int .i64 C, .int .i64 R, .string s, .slice lo ln lc, .slice ao an ac, .slice bo bn bc]) w := by
 have c0 : w.cell? ⟨g, 0, none⟩ = some (.int .i64 p) := by rw [cell_of_row _ _ _ _ _ _ h]; rfl
 have c1 : w.cell? ⟨g, 1, none⟩ = some (.int .u64 q) := by rw [cell_of_row _ _ _ _ _ _ h]; rfl
 have c2 : w.cell? ⟨g, 2, none⟩ = some (.int .i64 C) := by rw [cell_of_row _ _ _ _ _ _ h]; rfl
 have c3 : w.cell? ⟨g, 3, none⟩ = some (.int .i64 R) := by rw [cell_of_row _ _ _ _ _ _ h]; rfl
 have c4 : w.cell? ⟨g, 4, none⟩ = some (.string s) := by rw [cell_of_row _ _ _ _ _ _ h]; rfl
 have c5 : w.cell? ⟨g, 5, none⟩ = some (.slice lo ln lc) := by rw [cell_of_row _ _ _ _ _ _ h]; rfl
 have c6 : w.cell? ⟨g, 6, none⟩ = some (.slice ao an ac) := by rw [cell_of_row _ _ _ _ _ _ h]; rfl
 have c7 : w.cell? ⟨g, 7, none⟩ = some (.slice bo bn bc) := by rw [cell_of_row _ _ _ _ _ _ h]; rfl
 clear h
 go_simp
theorem ses_put {w : World} {g : Nat} {z0 z1 z2 z3 z4 z5 z6 z7 : Value} {p q C R : Int} {s : ByteArray} {lo ao bo : Option Addr} {ln lc an ac bn bc : Nat} (h0 : w.heap[g]? = some (.cells #[z0, z1, z2, z3, z4, z5, z6, z7] 101 (0, 0))) : (((((((((w.setCell ⟨g, 0, none⟩ (.int .i64 p)).setCell ⟨g, 1, none⟩ (.int .u64 q)).setCell ⟨g, 2, none⟩ (.int .i64 C)).setCell ⟨g, 3, none⟩ (.int .i64 R)).setCell ⟨g, 4, none⟩ (.string s)).setCell ⟨g, 5, none⟩ (.slice lo ln lc)).setCell ⟨g, 6, none⟩ (.slice ao an ac)).setCell ⟨g, 7, none⟩ (.slice bo bn bc))).heap[g]? = some (.cells #[.int .i64 p, .int .u64 q, .int .i64 C, .int .i64 R, .string s, .slice lo ln lc, .slice ao an ac, .slice bo bn bc] 101 (0, 0)) := by
 have h1 : (w.setCell ⟨g, 0, none⟩ (.int .i64 p)).heap[g]? = some (.cells #[.int .i64 p, z1, z2, z3, z4, z5, z6, z7] 101 (0, 0)) := (heap_setCell_same w g 0 _ _ (.int .i64 p) h0).trans (by kernel_rfl)
 have h2 : ((w.setCell ⟨g, 0, none⟩ (.int .i64 p)).setCell ⟨g, 1, none⟩ (.int .u64 q)).heap[g]? = some (.cells #[.int .i64 p, .int .u64 q, z2, z3, z4, z5, z6, z7] 101 (0, 0)) := (heap_setCell_same (w.setCell ⟨g, 0, none⟩ (.int .i64 p)) g 1 _ _ (.int .u64 q) h1).trans (by kernel_rfl)
 have h3 : (((w.setCell ⟨g, 0, none⟩ (.int .i64 p)).setCell ⟨g, 1, none⟩ (.int .u64 q)).setCell ⟨g, 2, none⟩ (.int .i64 C)).heap[g]? = some (.cells #[.int .i64 p, .int .u64 q, .int .i64 C, z3, z4, z5, z6, z7] 101 (0, 0)) := (heap_setCell_same ((w.setCell ⟨g, 0, none⟩ (.int .i64 p)).setCell ⟨g, 1, none⟩ (.int .u64 q)) g 2 _ _ (.int .i64 C) h2).trans (by kernel_rfl)
 have h4 : ((((w.setCell ⟨g, 0, none⟩ (.int .i64 p)).setCell ⟨g, 1, none⟩ (.int .u64 q)).setCell ⟨g, 2, none⟩ (.int .i64 C)).setCell ⟨g, 3, none⟩ (.int .i64 R)).heap[g]? = some (.cells #[.int .i64 p, .int .u64 q, .int .i64 C, .int .i64 R, z4, z5, z6, z7] 101 (0, 0)) := (heap_setCell_same (((w.setCell ⟨g, 0, none⟩ (.int .i64 p)).setCell ⟨g, 1, none⟩ (.int .u64 q)).setCell ⟨g, 2, none⟩ (.int .i64 C)) g 3 _ _ (.int .i64 R) h3).trans (by kernel_rfl)
 have h5 : (((((w.setCell ⟨g, 0, none⟩ (.int .i64 p)).setCell ⟨g, 1, none⟩ (.int .u64 q)).setCell ⟨g, 2, none⟩ (.int .i64 C)).setCell ⟨g, 3, none⟩ (.int .i64 R)).setCell ⟨g, 4, none⟩ (.string s)).heap[g]? = some (.cells #[.int .i64 p, .int .u64 q, .int .i64 C, .int .i64 R, .string s, z5, z6, z7] 101 (0, 0)) := (heap_setCell_same ((((w.setCell ⟨g, 0, none⟩ (.int .i64 p)).setCell ⟨g, 1, none⟩ (.int .u64 q)).setCell ⟨g, 2, none⟩ (.int .i64 C)).setCell ⟨g, 3, none⟩ (.int .i64 R)) g 4 _ _ (.string s) h4).trans (by kernel_rfl)
 have h6 : ((((((w.setCell ⟨g, 0, none⟩ (.int .i64 p)).setCell ⟨g, 1, none⟩ (.int .u64 q)).setCell ⟨g, 2, none⟩ (.int .i64 C)).setCell ⟨g, 3, none⟩ (.int .i64 R)).setCell ⟨g, 4, none⟩ (.string s)).setCell ⟨g, 5, none⟩ (.slice lo ln lc)).heap[g]? = some (.cells #[.int .i64 p, .int .u64 q, .int .i64 C, .int .i64 R, .string s, .slice lo ln lc, z6, z7] 101 (0, 0)) := (heap_setCell_same (((((w.setCell ⟨g, 0, none⟩ (.int .i64 p)).setCell ⟨g, 1, none⟩ (.int .u64 q)).setCell ⟨g, 2, none⟩ (.int .i64 C)).setCell ⟨g, 3, none⟩ (.int .i64 R)).setCell ⟨g, 4, none⟩ (.string s)) g 5 _ _ (.slice lo ln lc) h5).trans (by kernel_rfl)
 have h7 : (((((((w.setCell ⟨g, 0, none⟩ (.int .i64 p)).setCell ⟨g, 1, none⟩ (.int .u64 q)).setCell ⟨g, 2, none⟩ (.int .i64 C)).setCell ⟨g, 3, none⟩ (.int .i64 R)).setCell ⟨g, 4, none⟩ (.string s)).setCell ⟨g, 5, none⟩ (.slice lo ln lc)).setCell ⟨g, 6, none⟩ (.slice ao an ac)).heap[g]? = some (.cells #[.int .i64 p, .int .u64 q, .int .i64 C, .int .i64 R, .string s, .slice lo ln lc, .slice ao an ac, z7] 101 (0, 0)) := (heap_setCell_same ((((((w.setCell ⟨g, 0, none⟩ (.int .i64 p)).setCell ⟨g, 1, none⟩ (.int .u64 q)).setCell ⟨g, 2, none⟩ (.int .i64 C)).setCell ⟨g, 3, none⟩ (.int .i64 R)).setCell ⟨g, 4, none⟩ (.string s)).setCell ⟨g, 5, none⟩ (.slice lo ln lc)) g 6 _ _ (.slice ao an ac) h6).trans (by kernel_rfl)
 have h8 : ((((((((w.setCell ⟨g, 0, none⟩ (.int .i64 p)).setCell ⟨g, 1, none⟩ (.int .u64 q)).setCell ⟨g, 2, none⟩ (.int .i64 C)).setCell ⟨g, 3, none⟩ (.int .i64 R)).setCell ⟨g, 4, none⟩ (.string s)).setCell ⟨g, 5, none⟩ (.slice lo ln lc)).setCell ⟨g, 6, none⟩ (.slice ao an ac)).setCell ⟨g, 7, none⟩ (.slice bo bn bc)).heap[g]? = some (.cells #[.int .i64 p, .int .u64 q, .int .i64 C, .int .i64 R, .string s, .slice lo ln lc, .slice ao an ac, .slice bo bn bc] 101 (0, 0)) := (heap_setCell_same (((((((w.setCell ⟨g, 0, none⟩ (.int .i64 p)).setCell ⟨g, 1, none⟩ (.int .u64 q)).setCell ⟨g, 2, none⟩ (.int .i64 C)).setCell ⟨g, 3, none⟩ (.int .i64 R)).setCell ⟨g, 4, none⟩ (.string s)).setCell ⟨g, 5, none⟩ (.slice lo ln lc)).setCell ⟨g, 6, none⟩ (.slice ao an ac)) g 7 _ _ (.slice bo bn bc) h7).trans (by kernel_rfl)
 exact h8
theorem ses_res {fn : Func} {a r : Tmp} {w : World} {g : Nat} {p q C R : Int} {s : ByteArray} {lo ao bo : Option Addr} {ln lc an ac bn bc : Nat} (hb : w.heap[g]? = some (.cells #[.int .i64 p, .int .u64 q, .int .i64 C, .int .i64 R, .string s, .slice lo ln lc, .slice ao an ac, .slice bo bn bc] 101 (0, 0))) (h : fn.results = #[.cell a 101, .tmp r]) (tmps : Array Value) (t : Value) (hp : tmps.getD a undef = .pointer (some ⟨g, 0, none⟩)) (ht : tmps.getD r undef = t) :
  (results fn tmps).run Tryz.prog w = .ok (.tuple #[.agg #[.int .i64 p, .int .u64 q, .int .i64 C, .int .i64 R, .string s, .slice lo ln lc, .slice ao an ac, .slice bo bn bc], t]) w := by
 have hp' : tmps[a]?.getD undef = .pointer (some ⟨g, 0, none⟩) := by simpa using hp
 have ht' : tmps[r]?.getD undef = t := by simpa using ht
 simp [results, h, hp', ht', asAddr, ses_load hb]
theorem ses_still {x w : World} {g : Nat} (h : Still x w) (hg : x.heap.size <= g) (v0 v1 v2 v3 v4 v5 v6 v7 : Value) : Still x ((((((((w.setCell ⟨g, 0, none⟩ v0).setCell ⟨g, 1, none⟩ v1).setCell ⟨g, 2, none⟩ v2).setCell ⟨g, 3, none⟩ v3).setCell ⟨g, 4, none⟩ v4).setCell ⟨g, 5, none⟩ v5).setCell ⟨g, 6, none⟩ v6).setCell ⟨g, 7, none⟩ v7) :=
 (((((((Fr.setCell h _ v0 (.inr hg)).setCell _ v1 (.inr hg)).setCell _ v2 (.inr hg)).setCell _ v3 (.inr hg)).setCell _ v4 (.inr hg)).setCell _ v5 (.inr hg)).setCell _ v6 (.inr hg)).setCell _ v7 (.inr hg)
theorem ses_cells {w : World} {g : Nat} {z0 z1 z2 z3 z4 z5 z6 z7 : Value} (h : w.heap[g]? = some (.cells #[z0, z1, z2, z3, z4, z5, z6, z7] 101 (0, 0))) : w.cell? ⟨g, 0, none⟩ = some z0 /\ w.cell? ⟨g, 1, none⟩ = some z1 /\ w.cell? ⟨g, 2, none⟩ = some z2 /\ w.cell? ⟨g, 3, none⟩ = some z3 /\ w.cell? ⟨g, 4, none⟩ = some z4 /\ w.cell? ⟨g, 5, none⟩ = some z5 /\ w.cell? ⟨g, 6, none⟩ = some z6 /\ w.cell? ⟨g, 7, none⟩ = some z7 /\ ∀ o, w.frozen? ⟨g, o, none⟩ = false := by
 refine ⟨?_, ?_, ?_, ?_, ?_, ?_, ?_, ?_, fun o => frozen_of_row w g o _ _ h⟩ <;> (rw [cell_of_row _ _ _ _ _ _ h]; rfl)
set_option maxHeartbeats 4000000 in
theorem open_no1 (F : Cf) (v : Int) (st sp : List (Int × Int)) (l : List Int) (lo : Option Addr) (n cap : Nat) (hlg : F.lg = .slice lo n cap) (w : World) (Q : Q13 w F v st sp) (hr : RdI w lo n cap l) (hc : ¬ ((2 <= F.p /\ F.p <= 6) /\ Lags l /\ v = 0)) :
  Calls Tryz.prog 40 #[cfv F] w fun e w' => e = .returned (.tuple #[.agg #[.int .i64 0, .int .u64 0, .int .i64 0, .int .i64 0, .string ByteArray.empty, .slice none 0 0, .slice none 0 0, .slice none 0 0], .int .i64 130]) /\ Still w w' := by
 have A0 := Still.alloc w (.cells (cfc F) 27)
 have A1 := Still.alloc (w.alloc (.cells (cfc F) 27)) (.cells #[.int .i64 0, .int .u64 0, .int .i64 0, .int .i64 0, .string ByteArray.empty, .slice none 0 0, .slice none 0 0, .slice none 0 0] 101)
 have p0 := (newCf_cb w F).still A1
 have q0 := heap_alloc_new (w.alloc (.cells (cfc F) 27)) (.cells #[.int .i64 0, .int .u64 0, .int .i64 0, .int .i64 0, .string ByteArray.empty, .slice none 0 0, .slice none 0 0, .slice none 0 0] 101)
 rw [size_alloc] at q0
 have HS0 : Hid (Still w ((w.alloc (.cells (cfc F) 27)).alloc (.cells #[.int .i64 0, .int .u64 0, .int .i64 0, .int .i64 0, .string ByteArray.empty, .slice none 0 0, .slice none 0 0, .slice none 0 0] 101))) := hid (A0.trans A1)
 have HP0 : Hid (Cfb ((w.alloc (.cells (cfc F) 27)).alloc (.cells #[.int .i64 0, .int .u64 0, .int .i64 0, .int .i64 0, .string ByteArray.empty, .slice none 0 0, .slice none 0 0, .slice none 0 0] 101)) w.heap.size F) := hid p0
 have HZ0 := hid q0
 have HZa := hid q0
 have HSa := hid (A0.trans A1)
 have HPa := hid p0
 obtain ⟨W0, eW0⟩ : ∃ X, (w.alloc (.cells (cfc F) 27)).alloc (.cells #[.int .i64 0, .int .u64 0, .int .i64 0, .int .i64 0, .string ByteArray.empty, .slice none 0 0, .slice none 0 0, .slice none 0 0] 101) = X := ⟨_, rfl⟩
 rw [eW0] at HS0 HP0 HZ0
 have HQ := hid Q
 have HR := hid hr
 have HL := hid hlg
 have HC := hid hc
 have HM := hid (fun u (hu : Still w u) => maylag_any l lo n cap u (hr.still hu))
 have HK := hid (fun u (hu : Still w u) => Q.chk u hu)
 obtain ⟨c0, c1, c2, c3, c4, c5, cf⟩ := HP0.out.cells
 rw [hlg] at c5
 clear Q hr hlg hc A0 A1 p0 q0
 by_cases t0 : 2 <= F.p /\ F.p <= 6
 rotate_left
 ·have HW := hid (fun u => wwithin_any F.p 2 6 u)
  rw [decide_eq_false t0] at HW
  clear t0
  go_enter Tryz.func40, Tryz.ntmps40
  go_wp2_with fail
  refine (HW.out _).mono ?_
  rintro e w1 ⟨he, hw⟩
  rw [he, hw]
  clear he hw w1
  go_wp2_with fail
  refine bodyPost_ret (ses_res HZa.out rfl _ _ rfl rfl) rfl ⟨rfl, HSa.out⟩
 have HW := hid (fun u => wwithin_any F.p 2 6 u)
 rw [decide_eq_true t0] at HW
 have T0 := hid t0
 clear t0
 go_enter Tryz.func40, Tryz.ntmps40
 go_wp2_with fail
 refine (HW.out _).mono ?_
 rintro e w1 ⟨he, hw⟩
 rw [he, hw]
 clear he hw w1
 go_wp2_with fail
 rw [HL.out]
 refine (HM.out _ HSa.out).mono ?_
 rintro e w2 ⟨⟨b2, rfl, hb2⟩, h2⟩
 have HS2 := hid (HSa.out.trans h2)
 have HP2 := hid (HPa.out.still h2)
 have HZ2 := hid (h2.kept_still HZa.out)
 have HB2 := hid hb2
 clear c0 c1 c2 c3 c4 c5 cf h2 hb2 HP0 HS0 HZ0 eW0
 cases b2 with
 | false =>
  obtain ⟨d0, d1, d2, d3, d4, d5, d6, d7, df⟩ := ses_cells HZ2.out
  go_wp2_with fail
  refine bodyPost_ret (ses_res (ses_put HZ2.out) rfl _ _ rfl rfl) rfl ⟨rfl, ses_still HS2.out (by omega) _ _ _ _ _ _ _ _⟩
 | true =>
  have HB3 := hid (HB2.out.1 rfl)
  clear HB2
  obtain ⟨c0, c1, c2, c3, c4, c5, cf⟩ := HP2.out.cells
  rw [HL.out] at c5
  go_wp2_with fail
  refine (HK.out _ HS2.out).mono ?_
  rintro e w3 ⟨rfl, h3⟩
  have HS3 := hid (HS2.out.trans h3)
  have HP3 := hid (HP2.out.still h3)
  have HZ3 := hid (h3.kept_still HZ2.out)
  clear c0 c1 c2 c3 c4 c5 cf h3 HP2 HS2 HZ2
  by_cases t3 : v = 0
  rotate_left
  ·have f3 : (v != 0) = true := by simpa using t3
   clear t3
   obtain ⟨d0, d1, d2, d3, d4, d5, d6, d7, df⟩ := ses_cells HZ3.out
   go_wp2_with fail
   refine bodyPost_ret (ses_res (ses_put HZ3.out) rfl _ _ rfl rfl) rfl ⟨rfl, ses_still HS3.out (by omega) _ _ _ _ _ _ _ _⟩
  exact absurd ⟨T0.out, HB3.out, t3⟩ HC.out
end Go.Proofs.YthcjckgmdokmdaaGreatDoor
namespace Go.Proofs.YthcjckgmdokmdaaGreatDoor
open Go.RowKit
open Pu Gp Ap Vp Np Za Ka Ja Ea Ha Hg Hi
set_option maxRecDepth 100000
end Go.Proofs.YthcjckgmdokmdaaGreatDoor
