/- Parts of the proof, laid end to end. -/
import Derived.Test.YtkgbmefaphhcnaaGreatDoorZU25
import Derived.Test.YtkgbmefaphhcnaaGreatDoorZU27
import Derived.Test.YtkgbmefaphhcnaaGreatDoorZU26
import Derived.Test.YtkgbmefaphhcnaaGreatDoorZU02
namespace Go.Proofs.YtkgbmefaphhcnaaGreatDoor
open Go.RowKit
open Np Za Ka Ja Ea Ha Wp
set_option maxRecDepth 100000
set_option linter.unusedVariables false
set_option linter.unusedSimpArgs false
theorem bequal_any (ao bo : Option Addr) (n m c d : Nat) (a b : List UInt8) (w : World) (ha : Rd w ao n c a) (hb : Rd w bo m d b) :
  Calls Tryz.prog 49 #[.slice ao n c, .slice bo m d] w fun r w' => r = .returned (.bool (a == b)) /\ w' = w := by
 have s1 := run_string (P := Tryz.prog) w 38 5 9 Tryz.underlying38 Tryz.underlying5 Tryz.underlying9 ha
 have s2 := run_string (P := Tryz.prog) w 38 5 9 Tryz.underlying38 Tryz.underlying5 Tryz.underlying9 hb
 clear ha hb
 go_enter Tryz.func49, Tryz.ntmps49
 go_wp2_with fail
 go_ret
 exact ⟨rfl, rfl⟩
def zW : Wd := ⟨0, [], [], [], [], 0⟩
def decW (k : Nat) (bs : List UInt8) (x : Wd -> Int) : Wd × Int :=
 if bs.length < 8 then (zW, 140) else match saysW k (bs.take (bs.length - 8)) with
  | none => (zW, 140)
  | some X => if bs.drop (bs.length - 8) = sumB (bs.take (bs.length - 8)) then (if x X = 0 then (X, 0) else (zW, x X)) else (zW, 141)
abbrev zcs : Array Value := wdcs 0 0 (.slice none 0 0) (.slice none 0 0) (.slice none 0 0) (.slice none 0 0)
abbrev zv : Value := .agg zcs
theorem OwW.zero (w : World) (B : Nat) : OwW w B zv zW := ⟨_, _, _, _, rfl, OwG.nil _ _, OwG.nil _ _, OwG.nil _ _, OwG.nil _ _⟩
abbrev cfcs (k : Int) (q : Nat) (C R : Int) (s : ByteArray) (lo : Option Addr) (ln lc : Nat) : Array Value := #[.int .i64 k, .int .u64 (q : Int), .int .i64 C, .int .i64 R, .string s, .slice lo ln lc]
structure Bdc (w U : World) (g : Nat) (cs : Array Value) : Prop where
 c : U.heap[g]? = some (.cells cs 37 (0, 0))
 r : Wdb U (g + 1) 0 0 (.slice none 0 0) (.slice none 0 0) (.slice none 0 0) (.slice none 0 0)
 s : Still w U
 g : w.heap.size <= g
theorem Bdc.still {w U V : World} {g : Nat} {cs : Array Value} (h : Bdc w U g cs) (hs : Still U V) : Bdc w V g cs := ⟨hs.kept_still h.c, h.r.still hs, h.s.trans hs, h.g⟩
theorem Bdc.new (w : World) (cs : Array Value) : Bdc w ((w.alloc (.cells cs 37)).alloc (.cells zcs 27)) w.heap.size cs := by
 have A0 := Still.alloc w (.cells cs 37)
 have A1 := Still.alloc (w.alloc (.cells cs 37)) (.cells zcs 27)
 have h1 : Wdb ((w.alloc (.cells cs 37)).alloc (.cells zcs 27)) (w.alloc (.cells cs 37)).heap.size 0 0 (.slice none 0 0) (.slice none 0 0) (.slice none 0 0) (.slice none 0 0) := heap_alloc_new _ _
 rw [size_alloc] at h1
 exact ⟨A1.kept_still (heap_alloc_new w _), h1, A0.trans A1, Nat.le_refl _⟩
theorem Bdc.put {w U : World} {g : Nat} {cs : Array Value} (h : Bdc w U g cs) (fr nx : Int) (a b c d : Value) : Still w ((((((U.setCell ⟨g + 1, 0, none⟩ (.int .i64 fr)).setCell ⟨g + 1, 1, none⟩ a).setCell ⟨g + 1, 2, none⟩ b).setCell ⟨g + 1, 3, none⟩ c).setCell ⟨g + 1, 4, none⟩ d).setCell ⟨g + 1, 5, none⟩ (.int .i64 nx)) := still_set6 h.s (by have := h.g; omega) _ _ _ _ _ _
set_option maxHeartbeats 8000000 in
theorem zdec_cfg (k : Int) (q : Nat) (C R : Int) (s : ByteArray) (lo : Option Addr) (ln lc : Nat) (ao : Option Addr) (n cap : Nat) (x : Int) (hx : x ≠ 0) (w : World)
  (hcc : ∀ u, Still w u -> Calls Tryz.prog 42 #[.agg (cfcs k q C R s lo ln lc)] u fun e w' => e = .returned (.int .i64 x) /\ Still u w') :
  Calls Tryz.prog 19 #[.agg (cfcs k q C R s lo ln lc), .slice ao n cap] w fun e w' => ∃ v, e = .returned (.tuple #[v, .int .i64 x]) /\ OwW w' w.heap.size v zW /\ Still w w' := by
 have hx' := chain0 hx
 have B0 := Bdc.new w (cfcs k q C R s lo ln lc)
 obtain ⟨U, eU⟩ : ∃ U, (w.alloc (.cells (cfcs k q C R s lo ln lc) 37)).alloc (.cells zcs 27) = U := ⟨_, rfl⟩
 obtain ⟨g, eg⟩ : ∃ g, w.heap.size = g := ⟨_, rfl⟩
 rw [eU] at B0
 have HC := hid (hcc U B0.s)
 have HW : Hid (w.heap.size = g) := hid eg
 rw [eg] at B0
 have HB := hid B0
 have d0 := cell_of_row _ _ 0 _ _ _ B0.c
 have d1 := cell_of_row _ _ 1 _ _ _ B0.c
 have d2 := cell_of_row _ _ 2 _ _ _ B0.c
 have d3 := cell_of_row _ _ 3 _ _ _ B0.c
 have d4 := cell_of_row _ _ 4 _ _ _ B0.c
 have d5 := cell_of_row _ _ 5 _ _ _ B0.c
 simp only [List.getElem?_toArray, List.getElem?_cons_zero, List.getElem?_cons_succ] at d0 d1 d2 d3 d4 d5
 clear B0 hcc
 go_enter Tryz.func19, Tryz.ntmps19
 go_wp2_with fail
 refine HC.out.mono ?_
 rintro e w1 ⟨he, h1⟩
 rw [he]
 have HB1 := hid (HB.out.still h1)
 clear he h1 HC HB d0 d1 d2 d3 d4 d5 eU
 obtain ⟨c0, c1, c2, c3, c4, c5, cf⟩ := HB1.out.r.cells
 have f0 := cf 0
 have f1 := cf 1
 have f2 := cf 2
 have f3 := cf 3
 have f4 := cf 4
 have f5 := cf 5
 go_wp2_with fail
 refine bodyPost_ret (Wdb.res2 (HB1.out.r.put 0 0 (.slice none 0 0) (.slice none 0 0) (.slice none 0 0) (.slice none 0 0)) rfl _ _ rfl rfl) rfl ⟨_, rfl, OwW.zero _ _, HB1.out.put 0 0 _ _ _ _⟩
end Go.Proofs.YtkgbmefaphhcnaaGreatDoor
set_option maxRecDepth 100000
namespace Go.Proofs.YtkgbmefaphhcnaaGreatDoor
open Go.RowKit
open Pu Gp Ap Vp Np Za Ka Ja Ea Ha Hi
set_option linter.unusedVariables false
end Go.Proofs.YtkgbmefaphhcnaaGreatDoor
namespace Go.Proofs.YtkgbmefaphhcnaaGreatDoor
open Go.RowKit
open Np Za Ka Ja Ea Ha Wp
set_option maxRecDepth 100000
set_option linter.unusedVariables false
set_option linter.unusedSimpArgs false
theorem wr64h {n : Int} (h : -9223372036854775808 <= n) (h2 : n <= 9223372036854775807) : IntKind.i64.wrap n = n := by
 rw [IntKind.wrap_i64]
 omega
set_option maxHeartbeats 16000000 in
theorem zdec_any (k : Nat) (hk : k <= 2147483647) (q : Nat) (C R : Int) (s : ByteArray) (lo : Option Addr) (ln lc : Nat) (ao : Option Addr) (n cap : Nat) (bs : List UInt8) (x : Wd -> Int) (w : World) (hr : Rd w ao n cap bs) (h47 : n <= 140737488355328) (ht : FTab w)
  (hcc : ∀ u, Still w u -> Calls Tryz.prog 42 #[.agg (cfcs (k : Int) q C R s lo ln lc)] u fun e w' => e = .returned (.int .i64 0) /\ Still u w')
  (hck : ∀ u v X, Still w u -> OwW u w.heap.size v X -> saysW k (bs.take (n - 8)) = some X -> Calls Tryz.prog 31 #[.agg (cfcs (k : Int) q C R s lo ln lc), v] u fun e w' => e = .returned (.int .i64 (x X)) /\ Still u w') :
  Calls Tryz.prog 19 #[.agg (cfcs (k : Int) q C R s lo ln lc), .slice ao n cap] w fun e w' => ∃ v, e = .returned (.tuple #[v, .int .i64 (decW k bs x).2]) /\ OwW w' w.heap.size v (decW k bs x).1 /\ Still w w' := by
 have hln := hr.len
 have hcap := hr.le
 have B0 := Bdc.new w (cfcs (k : Int) q C R s lo ln lc)
 obtain ⟨U, eU⟩ : ∃ U, (w.alloc (.cells (cfcs (k : Int) q C R s lo ln lc) 37)).alloc (.cells zcs 27) = U := ⟨_, rfl⟩
 obtain ⟨g, eg⟩ : ∃ g, w.heap.size = g := ⟨_, rfl⟩
 rw [eU] at B0
 have HC := hid (hcc U B0.s)
 have HK := hid hck
 rw [eg] at B0
 have HB := hid B0
 have d0 := cell_of_row _ _ 0 _ _ _ B0.c
 have d1 := cell_of_row _ _ 1 _ _ _ B0.c
 have d2 := cell_of_row _ _ 2 _ _ _ B0.c
 have d3 := cell_of_row _ _ 3 _ _ _ B0.c
 have d4 := cell_of_row _ _ 4 _ _ _ B0.c
 have d5 := cell_of_row _ _ 5 _ _ _ B0.c
 simp only [List.getElem?_toArray, List.getElem?_cons_zero, List.getElem?_cons_succ] at d0 d1 d2 d3 d4 d5
 clear B0 hcc hck
 by_cases hn : n < 8
 ·have hlt : (n : Int) < 8 := by omega
  have HDc : Hid (decW k bs x = (zW, 140)) := hid (by unfold decW; rw [if_pos (by omega)])
  go_enter Tryz.func19, Tryz.ntmps19
  go_wp2_with fail
  refine HC.out.mono ?_
  rintro e w1 ⟨he, h1⟩
  rw [he]
  have HB1 := hid (HB.out.still h1)
  clear he h1 HC HB d0 d1 d2 d3 d4 d5 eU
  obtain ⟨c0, c1, c2, c3, c4, c5, cf⟩ := HB1.out.r.cells
  have f0 := cf 0
  have f1 := cf 1
  have f2 := cf 2
  have f3 := cf 3
  have f4 := cf 4
  have f5 := cf 5
  go_wp2_with fail
  refine bodyPost_ret (Wdb.res2 (HB1.out.r.put 0 0 (.slice none 0 0) (.slice none 0 0) (.slice none 0 0) (.slice none 0 0)) rfl _ _ rfl rfl) rfl ⟨_, by rw [HDc.out]; rfl, by rw [HDc.out]; exact OwW.zero _ _, HB1.out.put 0 0 _ _ _ _⟩
 ·have hlt : ¬ (n : Int) < 8 := by omega
  obtain ⟨i0, hi0, hz0, hs10, hb10⟩ := info_parts info_u8
  have hwn : IntKind.i64.wrap ((n : Int) - 8) = (n : Int) - 8 := wr64h (by omega) (by omega)
  have hsu : ∀ W' : World, (Instr.slice 38 (.slice ao n cap) none (some (.int .i64 ((n : Int) - 8))) none).run Tryz.prog W' = .ok (.slice ao (n - 8) cap) W' := fun W' => by
   have := run_upto (P := Tryz.prog) W' 38 5 i0 Tryz.underlying38 hi0 hs10 .i64 ao n cap ((n : Int) - 8) (by omega) (by omega)
   rw [this, show ((n : Int) - 8).toNat = n - 8 by omega]
  have hsf : ∀ W' : World, (Instr.slice 38 (.slice ao n cap) (some (.int .i64 ((n : Int) - 8))) none none).run Tryz.prog W' = .ok (.slice (cutAt ao cap (n - 8)) 8 (cap - (n - 8))) W' := fun W' => by
   have := run_from (P := Tryz.prog) W' 38 5 i0 Tryz.underlying38 hi0 hs10 .i64 ao n cap ((n : Int) - 8) (by omega) (by omega)
   rw [this, show ((n : Int) - 8).toNat = n - 8 by omega, show n - (n - 8) = 8 by omega]
  have HRa : Hid (∀ u, Still w u -> Rd u ao (n - 8) cap (bs.take (n - 8))) := hid (fun u hu => (hr.take (by omega)).still hu)
  have HRt : Hid (∀ u, Still w u -> Rd u (cutAt ao cap (n - 8)) 8 (cap - (n - 8)) (bs.drop (n - 8))) := hid (fun u hu => by
   have := (hr.drop (i := n - 8) (by omega)).still hu
   rwa [show n - (n - 8) = 8 by omega] at this)
  have HTb : Hid (∀ u, Still w u -> FTab u) := hid (fun u hu => ht.still hu)
  obtain ⟨bt, ebt⟩ : ∃ x, bs.take (n - 8) = x := ⟨_, rfl⟩
  obtain ⟨bd, ebd⟩ : ∃ x, bs.drop (n - 8) = x := ⟨_, rfl⟩
  have HDe : Hid (decW k bs x = match saysW k bt with | none => (zW, 140) | some X => if bd = sumB bt then (if x X = 0 then (X, 0) else (zW, x X)) else (zW, 141)) := hid (by
   unfold decW
   rw [if_neg (by omega), hln, ebt, ebd]
   all_goals (cases saysW k bt <;> rfl))
  rw [ebt] at HRa HK
  rw [ebd] at HRt
  have HP : Hid (∀ u, Still w u -> Calls Tryz.prog 48 #[.slice ao (n - 8) cap, .int .i64 (k : Int)] u fun r w' => ∃ v, r = .returned (.tuple #[v, .bool (!(wdM k ⟨bt, 0, false⟩).2.y && doB (wdM k ⟨bt, 0, false⟩).2)]) /\ OwW w' u.heap.size v (wdM k ⟨bt, 0, false⟩).1 /\ Still u w') := hid (fun u hu => zparse_any ao (n - 8) cap k bt hk u (HRa.out u hu) (by omega))
  obtain ⟨m8, em8⟩ : ∃ m, n - 8 = m := ⟨_, rfl⟩
  rw [em8] at hsu hsf HRa HRt HP
  clear hr ht ebt ebd em8 hi0 hz0 hs10 hb10
  cases hs : saysW k bt with
  | none =>
   have HN := hid (saysW_no (par_wd k) hs)
   have HDc : Hid (decW k bs x = (zW, 140)) := hid (by rw [HDe.out, hs])
   rw [HN.out] at HP
   obtain ⟨X, eX⟩ : ∃ X, (wdM k ⟨bt, 0, false⟩).1 = X := ⟨_, rfl⟩
   rw [eX] at HP
   clear HN eX HDe hs
   go_enter Tryz.func19, Tryz.ntmps19
   go_wp2_with fail
   refine HC.out.mono ?_
   rintro e w1 ⟨he, h1⟩
   rw [he]
   have HB1 := hid (HB.out.still h1)
   have d0 := cell_of_row _ _ 0 _ _ _ HB1.out.c
   simp only [List.getElem?_toArray, List.getElem?_cons_zero, List.getElem?_cons_succ] at d0
   clear he h1 HC HB eU
   go_upto_region 6 with fail
   go_quiet (fail)
   go_wp2_with fail
   refine (HP.out _ (by first | exact HB1.out.s | exact HB1.out.s.trans ((Fr.refl _ w1).drew) | exact HB1.out.s.trans ((Fr.refl _ w1).drewN _))).mono ?_
   rintro e w2 ⟨v, he, hv, h2⟩
   obtain ⟨va, vb, vc, vd, rfl, o1, o2, o3, o4⟩ := hv
   obtain ⟨a1, b1, rfl, _⟩ := o1.slice
   obtain ⟨a2, b2, rfl, _⟩ := o2.slice
   obtain ⟨a3, b3, rfl, _⟩ := o3.slice
   obtain ⟨a4, b4, rfl, _⟩ := o4.slice
   rw [he]
   have HB2 := hid ((HB1.out.still (by first | exact h2 | exact Still.trans ((Fr.refl _ w1).drew) h2 | exact Still.trans ((Fr.refl _ w1).drewN _) h2)).still (Still.alloc w2 (.cells (wdcs X.fr X.nx (.slice a1 X.ms.length b1) (.slice a2 X.cs.length b2) (.slice a3 X.hs.length b3) (.slice a4 X.ks.length b4)) 27)))
   clear he h2 o1 o2 o3 o4 HB1 HP d0
   obtain ⟨c0, c1, c2, c3, c4, c5, cf⟩ := HB2.out.r.cells
   have f0 := cf 0
   have f1 := cf 1
   have f2 := cf 2
   have f3 := cf 3
   have f4 := cf 4
   have f5 := cf 5
   go_wp2_with fail
   refine bodyPost_ret (Wdb.res2 (HB2.out.r.put 0 0 (.slice none 0 0) (.slice none 0 0) (.slice none 0 0) (.slice none 0 0)) rfl _ _ rfl rfl) rfl ⟨_, by rw [HDc.out]; rfl, by rw [HDc.out]; exact OwW.zero _ _, HB2.out.put 0 0 _ _ _ _⟩
  | some Y =>
   have HN := hid (saysW_yes (par_wd k) hs)
   have HKx := hid (fun u v hu hv => HK.out u v Y hu hv hs)
   rw [hs] at HDe
   dsimp only at HDe
   rw [HN.out.1, HN.out.2] at HP
   obtain ⟨X, eX⟩ : ∃ X, Y = X := ⟨_, rfl⟩
   rw [eX] at HP HDe HKx
   clear HN eX hs HK
   go_enter Tryz.func19, Tryz.ntmps19
   go_wp2_with fail
   refine HC.out.mono ?_
   rintro e w1 ⟨he, h1⟩
   rw [he]
   have HB1 := hid (HB.out.still h1)
   have d0 := cell_of_row _ _ 0 _ _ _ HB1.out.c
   simp only [List.getElem?_toArray, List.getElem?_cons_zero, List.getElem?_cons_succ] at d0
   clear he h1 HC HB eU
   go_upto_region 6 with fail
   go_quiet (fail)
   go_wp2_with fail
   refine (HP.out _ (by first | exact HB1.out.s | exact HB1.out.s.trans ((Fr.refl _ w1).drew) | exact HB1.out.s.trans ((Fr.refl _ w1).drewN _))).mono ?_
   rintro e w2 ⟨v, he, hv, h2⟩
   have HO2 : Hid (OwW w2 w.heap.size v X) := hid (hv.less (by have := HB1.out.s.size; first | exact this | simpa using this))
   obtain ⟨va, vb, vc, vd, rfl, o1, o2, o3, o4⟩ := hv
   obtain ⟨a1, b1, rfl, _⟩ := o1.slice
   obtain ⟨a2, b2, rfl, _⟩ := o2.slice
   obtain ⟨a3, b3, rfl, _⟩ := o3.slice
   obtain ⟨a4, b4, rfl, _⟩ := o4.slice
   rw [he]
   have A2 := Still.alloc w2 (.cells (wdcs X.fr X.nx (.slice a1 X.ms.length b1) (.slice a2 X.cs.length b2) (.slice a3 X.hs.length b3) (.slice a4 X.ks.length b4)) 27)
   have W2 := newWd_wb w2 X.fr X.nx (.slice a1 X.ms.length b1) (.slice a2 X.cs.length b2) (.slice a3 X.hs.length b3) (.slice a4 X.ks.length b4)
   have HB2 := hid ((HB1.out.still (by first | exact h2 | exact Still.trans ((Fr.refl _ w1).drew) h2 | exact Still.trans ((Fr.refl _ w1).drewN _) h2)).still A2)
   have HO3 := hid (HO2.out.still A2)
   have W2' : Wdb (w2.alloc (.cells (wdcs X.fr X.nx (.slice a1 X.ms.length b1) (.slice a2 X.cs.length b2) (.slice a3 X.hs.length b3) (.slice a4 X.ks.length b4)) 27)) w2.heap.size X.fr X.nx (.slice a1 X.ms.length b1) (.slice a2 X.cs.length b2) (.slice a3 X.hs.length b3) (.slice a4 X.ks.length b4) := W2
   obtain ⟨V2, eV2⟩ : ∃ V, w2.alloc (.cells (wdcs X.fr X.nx (.slice a1 X.ms.length b1) (.slice a2 X.cs.length b2) (.slice a3 X.hs.length b3) (.slice a4 X.ks.length b4)) 27) = V := ⟨_, rfl⟩
   obtain ⟨g9, eg9⟩ : ∃ g, w2.heap.size = g := ⟨_, rfl⟩
   rw [eV2] at HB2 HO3 W2'
   rw [eg9] at W2'
   have HW2 := hid W2'
   have HCs := hid (psum_any ao m8 cap bt V2 (HRa.out _ HB2.out.s) (HTb.out _ HB2.out.s))
   clear he h2 o1 o2 o3 o4 HB1 HP d0 A2 W2 W2' HO2
   go_wp2_with fail
   refine HCs.out.mono ?_
   rintro e w3 ⟨ao3, cap3, he, ho3, h3, _⟩
   rw [he]
   have HB3 := hid (HB2.out.still h3)
   have HO4 := hid (HO3.out.still h3)
   have HW3 := hid (HW2.out.still h3)
   have HCe := hid (bequal_any (cutAt ao cap m8) ao3 8 8 (cap - m8) cap3 bd (sumB bt) w3 (HRt.out _ HB3.out.s) ho3.rd)
   clear he ho3 h3 HCs HB2 HO3 HW2 eV2 eg9
   go_wp2_with fail
   refine HCe.out.mono ?_
   rintro e w4 ⟨he, e4⟩
   rw [he, e4]
   clear he e4 HCe
   by_cases hsum : bd = sumB bt
   ·have hbq : (bd == sumB bt) = true := by rw [beq_iff_eq]; exact hsum
    rw [if_pos hsum] at HDe
    rw [hbq]
    clear hsum hbq
    have HCk := hid (HKx.out w3 _ HB3.out.s HO4.out)
    have d0 := cell_of_row _ _ 0 _ _ _ HB3.out.c
    have d1 := cell_of_row _ _ 1 _ _ _ HB3.out.c
    have d2 := cell_of_row _ _ 2 _ _ _ HB3.out.c
    have d3 := cell_of_row _ _ 3 _ _ _ HB3.out.c
    have d4 := cell_of_row _ _ 4 _ _ _ HB3.out.c
    have d5 := cell_of_row _ _ 5 _ _ _ HB3.out.c
    simp only [List.getElem?_toArray, List.getElem?_cons_zero, List.getElem?_cons_succ] at d0 d1 d2 d3 d4 d5
    obtain ⟨j0, j1, j2, j3, j4, j5, _⟩ := HW3.out.cells
    clear HKx
    go_wp2_with fail
    refine HCk.out.mono ?_
    rintro e w5 ⟨he, h5⟩
    rw [he]
    have HB5 := hid (HB3.out.still h5)
    have HO5 := hid (HO4.out.still h5)
    have HW5 := hid (HW3.out.still h5)
    clear he h5 HCk HB3 HO4 HW3 d0 d1 d2 d3 d4 d5 j0 j1 j2 j3 j4 j5
    obtain ⟨y, ey⟩ : ∃ y, x X = y := ⟨_, rfl⟩
    rw [ey] at HDe ⊢
    by_cases hy : y = 0
    ·rw [if_pos hy] at HDe
     have HDc : Hid (decW k bs x = (X, 0)) := hid HDe.out
     subst hy
     obtain ⟨j0, j1, j2, j3, j4, j5, _⟩ := HW5.out.cells
     obtain ⟨c0, c1, c2, c3, c4, c5, cf⟩ := HB5.out.r.cells
     have f0 := cf 0
     have f1 := cf 1
     have f2 := cf 2
     have f3 := cf 3
     have f4 := cf 4
     have f5 := cf 5
     go_wp2_with fail
     refine bodyPost_ret (Wdb.res2 (HB5.out.r.put X.fr X.nx (.slice a1 X.ms.length b1) (.slice a2 X.cs.length b2) (.slice a3 X.hs.length b3) (.slice a4 X.ks.length b4)) rfl _ _ rfl rfl) rfl ⟨_, by rw [HDc.out]; rfl, by rw [HDc.out]; exact HO5.out.set6 HB5.out.r.ty _ _ _ _ _ _, HB5.out.put X.fr X.nx _ _ _ _⟩
    ·rw [if_neg hy] at HDe
     have HDc : Hid (decW k bs x = (zW, y)) := hid HDe.out
     have hy' := chain0 hy
     obtain ⟨c0, c1, c2, c3, c4, c5, cf⟩ := HB5.out.r.cells
     have f0 := cf 0
     have f1 := cf 1
     have f2 := cf 2
     have f3 := cf 3
     have f4 := cf 4
     have f5 := cf 5
     go_wp2_with fail
     refine bodyPost_ret (Wdb.res2 (HB5.out.r.put 0 0 (.slice none 0 0) (.slice none 0 0) (.slice none 0 0) (.slice none 0 0)) rfl _ _ rfl rfl) rfl ⟨_, by rw [HDc.out]; rfl, by rw [HDc.out]; exact OwW.zero _ _, HB5.out.put 0 0 _ _ _ _⟩
   ·have hbq : (bd == sumB bt) = false := by rw [beq_eq_false_iff_ne]; exact hsum
    have HDc : Hid (decW k bs x = (zW, 141)) := hid (by rw [HDe.out, if_neg hsum])
    rw [hbq]
    clear hsum hbq HDe
    obtain ⟨c0, c1, c2, c3, c4, c5, cf⟩ := HB3.out.r.cells
    have f0 := cf 0
    have f1 := cf 1
    have f2 := cf 2
    have f3 := cf 3
    have f4 := cf 4
    have f5 := cf 5
    go_wp2_with fail
    refine bodyPost_ret (Wdb.res2 (HB3.out.r.put 0 0 (.slice none 0 0) (.slice none 0 0) (.slice none 0 0) (.slice none 0 0)) rfl _ _ rfl rfl) rfl ⟨_, by rw [HDc.out]; rfl, by rw [HDc.out]; exact OwW.zero _ _, HB3.out.put 0 0 _ _ _ _⟩
end Go.Proofs.YtkgbmefaphhcnaaGreatDoor
namespace Go.Proofs.YtkgbmefaphhcnaaGreatDoor
open Go.RowKit
open Np Za Ka Ja Ea Ha Wp
set_option maxRecDepth 100000
set_option linter.unusedVariables false
set_option linter.unusedSimpArgs false
structure Bdg (w U : World) (g : Nat) (cs : Array Value) (fr nx : Int) (a b c d : Value) : Prop where
 k : U.heap[g]? = some (.cells cs 37 (0, 0))
 r : Wdb U (g + 1) fr nx a b c d
 s : Still w U
theorem Bdg.still {w U V : World} {g : Nat} {cs : Array Value} {fr nx : Int} {a b c d : Value} (h : Bdg w U g cs fr nx a b c d) (hs : Still U V) : Bdg w V g cs fr nx a b c d := ⟨hs.kept_still h.k, h.r.still hs, h.s.trans hs⟩
theorem Bdg.new (w : World) (cs : Array Value) (fr nx : Int) (a b c d : Value) : Bdg w ((w.alloc (.cells cs 37)).alloc (.cells (wdcs fr nx a b c d) 27)) w.heap.size cs fr nx a b c d := by
 have A0 := Still.alloc w (.cells cs 37)
 have A1 := Still.alloc (w.alloc (.cells cs 37)) (.cells (wdcs fr nx a b c d) 27)
 have h1 : Wdb ((w.alloc (.cells cs 37)).alloc (.cells (wdcs fr nx a b c d) 27)) (w.alloc (.cells cs 37)).heap.size fr nx a b c d := heap_alloc_new _ _
 rw [size_alloc] at h1
 exact ⟨A1.kept_still (heap_alloc_new w _), h1, A0.trans A1⟩
def Idg (g : Nat) (k : Int) (q : Nat) (C R : Int) (s : ByteArray) (lo : Option Addr) (ln lc : Nat) (fr nx : Int) (a b c d : Value) (U : World) : Prop :=
 (U.cell? ⟨g, 0, none⟩ = some (.int .i64 k) /\ U.cell? ⟨g, 1, none⟩ = some (.int .u64 (q : Int)) /\ U.cell? ⟨g, 2, none⟩ = some (.int .i64 C) /\ U.cell? ⟨g, 3, none⟩ = some (.int .i64 R) /\ U.cell? ⟨g, 4, none⟩ = some (.string s) /\ U.cell? ⟨g, 5, none⟩ = some (.slice lo ln lc)) /\
 (U.cell? ⟨g + 1, 0, none⟩ = some (.int .i64 fr) /\ U.cell? ⟨g + 1, 1, none⟩ = some a /\ U.cell? ⟨g + 1, 2, none⟩ = some b /\ U.cell? ⟨g + 1, 3, none⟩ = some c /\ U.cell? ⟨g + 1, 4, none⟩ = some d /\ U.cell? ⟨g + 1, 5, none⟩ = some (.int .i64 nx))
theorem Bdg.i {w U : World} {g : Nat} {k : Int} {q : Nat} {C R : Int} {s : ByteArray} {lo : Option Addr} {ln lc : Nat} {fr nx : Int} {a b c d : Value} (h : Bdg w U g (cfcs k q C R s lo ln lc) fr nx a b c d) : Idg g k q C R s lo ln lc fr nx a b c d U := by
 have d0 := cell_of_row _ _ 0 _ _ _ h.k
 have d1 := cell_of_row _ _ 1 _ _ _ h.k
 have d2 := cell_of_row _ _ 2 _ _ _ h.k
 have d3 := cell_of_row _ _ 3 _ _ _ h.k
 have d4 := cell_of_row _ _ 4 _ _ _ h.k
 have d5 := cell_of_row _ _ 5 _ _ _ h.k
 simp only [List.getElem?_toArray, List.getElem?_cons_zero, List.getElem?_cons_succ] at d0 d1 d2 d3 d4 d5
 obtain ⟨c0, c1, c2, c3, c4, c5, cf⟩ := h.r.cells
 exact ⟨⟨d0, d1, d2, d3, d4, d5⟩, c0, c1, c2, c3, c4, c5⟩
set_option maxHeartbeats 8000000 in
theorem zdig_yes (k : Int) (q : Nat) (C R : Int) (s : ByteArray) (lo : Option Addr) (ln lc : Nat) (l : List Int) (hc : InC k q C R s l) (W : Wd) (v : Value) (hh : InW W) (hb : 121 * W.ms.length + 40 * W.cs.length + 80 * W.hs.length + 30 * W.ks.length + 50 <= 1000000) (w : World) (ht : FTab w) (hr : RdI w lo ln lc l) (hv : RdW w v W)
  (hck : ∀ u, Still w u -> Calls Tryz.prog 31 #[.agg (cfcs k q C R s lo ln lc), v] u fun e w' => e = .returned (.int .i64 0) /\ Still u w') :
  Calls Tryz.prog 15 #[.agg (cfcs k q C R s lo ln lc), v] w fun e w' => e = .returned (.tuple #[.int .u64 (chainI (ofI (ssB k q C R s l)) (ofI (wdB W))), .int .i64 0]) /\ Still w w' := by
 have HV := hid hv
 obtain ⟨_, _, _, _, rfl, ⟨ao, c1, rfl, _, _, _⟩, ⟨bo, c2, rfl, _, _, _⟩, ⟨co, c3, rfl, _, _, _⟩, ⟨so, c4, rfl, _, _, _⟩⟩ := hv
 have HSn := hid (fun u (hu : Still w u) => psesn_any k q C R s lo ln lc l hc u (ht.still hu) (hr.still hu))
 have HWb := hid (fun u (hu : Still w u) => worldBytes_any W _ hh hb u (HV.out.still hu))
 have HTb := hid (fun u (hu : Still w u) => ht.still hu)
 obtain ⟨n1, e1⟩ : ∃ n, W.ms.length = n := ⟨_, rfl⟩
 obtain ⟨n2, e2⟩ : ∃ n, W.cs.length = n := ⟨_, rfl⟩
 obtain ⟨n3, e3⟩ : ∃ n, W.hs.length = n := ⟨_, rfl⟩
 obtain ⟨n4, e4⟩ : ∃ n, W.ks.length = n := ⟨_, rfl⟩
 obtain ⟨fr, efr⟩ : ∃ n, W.fr = n := ⟨_, rfl⟩
 obtain ⟨nx, enx⟩ : ∃ n, W.nx = n := ⟨_, rfl⟩
 rw [e1, e2, e3, e4, efr, enx] at HWb
 rw [e1, e2, e3, e4, efr, enx] at hck
 rw [e1, e2, e3, e4, efr, enx]
 obtain ⟨X, eX⟩ : ∃ X, wdB W = X := ⟨_, rfl⟩
 obtain ⟨Z, eZ⟩ : ∃ Z, ofI (ssB k q C R s l) = Z := ⟨_, rfl⟩
 rw [eX] at HWb ⊢
 rw [eZ] at HSn ⊢
 have B0 := Bdg.new w (cfcs k q C R s lo ln lc) fr nx (.slice ao n1 c1) (.slice bo n2 c2) (.slice co n3 c3) (.slice so n4 c4)
 obtain ⟨U, eU⟩ : ∃ U, (w.alloc (.cells (cfcs k q C R s lo ln lc) 37)).alloc (.cells (wdcs fr nx (.slice ao n1 c1) (.slice bo n2 c2) (.slice co n3 c3) (.slice so n4 c4)) 27) = U := ⟨_, rfl⟩
 obtain ⟨g, eg⟩ : ∃ g, w.heap.size = g := ⟨_, rfl⟩
 rw [eU, eg] at B0
 have HC := hid (hck U B0.s)
 have HB := hid B0
 obtain ⟨⟨d0, d1, d2, d3, d4, d5⟩, m0, m1, m2, m3, m4, m5⟩ := B0.i
 clear B0 hck ht hr hb hh hc e1 e2 e3 e4 efr enx eX eZ HV
 go_enter Tryz.func15, Tryz.ntmps15
 go_wp2_with fail
 refine HC.out.mono ?_
 rintro e w1 ⟨he, h1⟩
 rw [he]
 have HB1 := hid (HB.out.still h1)
 have HB2 := hid (HB1.out.still ((Fr.refl _ w1).drew))
 clear he h1 HC HB d0 d1 d2 d3 d4 d5 m0 m1 m2 m3 m4 m5 eU eg
 go_upto_region 4 with fail
 refine region_I (Idg g k q C R s lo ln lc fr nx (.slice ao n1 c1) (.slice bo n2 c2) (.slice co n3 c3) (.slice so n4 c4)) (by kernel_rfl) ?_
 refine wpAnyI_take (i := 0) (v := .agg (cfcs k q C R s lo ln lc)) rfl rfl (by kernel_rfl) (by kernel_rfl) (by kernel_rfl) (fun _ _ _ h => h) (fun u hu => ?ty0) ?tk0
 case ty0 =>
  obtain ⟨⟨d0, d1, d2, d3, d4, d5⟩, _⟩ := hu
  go_simp
  try rfl
 refine wpAnyI_take (i := 2) (v := .agg (wdcs fr nx (.slice ao n1 c1) (.slice bo n2 c2) (.slice co n3 c3) (.slice so n4 c4))) rfl rfl (by kernel_rfl) (by kernel_rfl) (by kernel_rfl) (fun _ _ _ h => h) (fun u hu => ?ty1) ?tk1
 case ty1 =>
  obtain ⟨_, d0, d1, d2, d3, d4, d5⟩ := hu
  go_simp
  try rfl
 refine wpAnyI_ready HB2.out.i (rs := [1]) (by kernel_rfl) (by simp) ?_
 refine AllI.cons rfl rfl (fun K hK => ?_) AllI.nil
 go_simp
 refine (HSn.out _ HB2.out.s).mono ?_
 rintro e w3 ⟨he, h3⟩
 rw [he]
 have HB3 := hid (HB2.out.still h3)
 clear he h3
 refine hK _ _ ?_
 clear hK K
 refine wpAnyI_ready HB3.out.i (rs := [3]) (by kernel_rfl) (by simp) ?_
 refine AllI.cons rfl rfl (fun K hK => ?_) AllI.nil
 go_simp
 refine (HWb.out _ HB3.out.s).mono ?_
 rintro e w4 ⟨ao4, cap4, he, ho4, h4, _⟩
 rw [he]
 have HB4 := hid (HB3.out.still h4)
 have HCd := hid (dof_any ao4 X.length cap4 X w4 ho4.rd (HTb.out _ HB4.out.s))
 clear he h4 ho4
 refine hK _ _ ?_
 clear hK K
 refine wpAnyI_ready HB4.out.i (rs := [4]) (by kernel_rfl) (by simp) ?_
 refine AllI.cons rfl rfl (fun K hK => ?_) AllI.nil
 go_simp
 refine HCd.out.mono ?_
 rintro e w5 ⟨he, h5⟩
 rw [he]
 have HB5 := hid (HB4.out.still h5)
 have HCc := hid (chain_still Z (ofI X) w5 (HTb.out _ HB5.out.s).d)
 clear he h5 HCd
 refine hK _ _ ?_
 clear hK K
 refine wpAnyI_ready HB5.out.i (rs := [5]) (by kernel_rfl) (by simp) ?_
 refine AllI.cons rfl rfl (fun K hK => ?_) AllI.nil
 go_simp
 refine HCc.out.mono ?_
 rintro e w6 ⟨he, h6⟩
 rw [he]
 have HB6 := hid (HB5.out.still h6)
 clear he h6 HCc
 refine hK _ _ ?_
 clear hK K
 refine wpAnyI_take (i := 6) (v := ?tv6) rfl rfl (by kernel_rfl) (by kernel_rfl) (by kernel_rfl) (fun _ _ _ h => h) (fun u hu => ?ty6) ?tk6
 case ty6 => (go_simp; try rfl)
 refine wpAnyI_take (i := 7) (v := ?tv7) rfl rfl (by kernel_rfl) (by kernel_rfl) (by kernel_rfl) (fun _ _ _ h => h) (fun u hu => ?ty7) ?tk7
 case ty7 => (go_simp; try rfl)
 refine wpAnyI_done HB6.out.i (by kernel_rfl) ?_ _
 go_wp2_with fail
 go_ret2
 exact ⟨rfl, HB6.out.s⟩
end Go.Proofs.YtkgbmefaphhcnaaGreatDoor
namespace Go.Proofs.YtkgbmefaphhcnaaGreatDoor
open Go.RowKit
open Np Za Ka Ja Ea Ha Wp
set_option maxRecDepth 100000
set_option linter.unusedVariables false
set_option linter.unusedSimpArgs false
theorem eq_lists {α : Type} (d : α) {L M : List α} (hl : L.length = M.length) (h : ∀ j, j < L.length -> L.getD j d = M.getD j d) : L = M := by
 apply List.ext_getElem hl
 intro j h1 h2
 have := h j h1
 simpa [List.getD, h1, h2] using this
theorem eqK_iff {x y : Pk} : eqK x y = true ↔ x = y := by
 obtain ⟨a, b, c⟩ := x
 obtain ⟨a', b', c'⟩ := y
 simp [eqK]
theorem neq_sv (m n : Sh) (w : World) : (binOp .neq 59 (sv m) (sv n)).run Tryz.prog w = .ok (.bool (!(eqS m n))) w := by
 rw [run_neq_struct, equal_sv]; rfl
set_option maxHeartbeats 4000000 in
theorem zeqM_any (ao bo : Option Addr) (n m c d : Nat) (L M : List Mv) (w : World) (ha : RdG KM w ao n L) (hb : RdG KM w bo m M) :
  Calls Tryz.prog 27 #[.slice ao n c, .slice bo m d] w fun r w' => (∃ b, r = .returned (.bool b) /\ (b = true ↔ L = M)) /\ Still w w' := by
 have hl1 := ha.1
 have hs1 := ha.2.1
 have hl2 := hb.1
 have hs2 := hb.2.1
 by_cases hnm : n = m
 ·subst hnm
  have hne : ((n : Int) != (n : Int)) = false := by simp
  have HR := hid (And.intro ha hb)
  clear ha hb
  go_enter Tryz.func27, Tryz.ntmps27
  go_wp2_with fail
  go_loopw [13] (fun u13 wr => ∃ (i : Nat), i <= n /\ u13 = .int .i64 (i : Int) /\ Hid (Still w wr /\ ∀ j, j < i -> L.getD j zM = M.getD j zM)) (fun u13 _ => n - (intOf u13).toNat)
  case atStart => exact ⟨0, by omega, rfl, hid ⟨Fr.refl _ _, fun j hj => by omega⟩⟩
  case round =>
   obtain ⟨i, hi, rfl, HI⟩ := hrel
   by_cases hin : i < n
   ·have hlt : (i : Int) < (n : Int) := by omega
    obtain ⟨b1, o1, rfl⟩ := HR.out.1.at (by omega)
    obtain ⟨b2, o2, rfl⟩ := HR.out.2.at (by omega)
    obtain ⟨d0, d1, d2, d3, d4, d5, d6, d7, d8, d9, d10, d11, d12⟩ := rdM (HR.out.1.still HI.out.1) hin
    obtain ⟨q0, q1, q2, q3, q4, q5, q6, q7, q8, q9, q10, q11, q12⟩ := rdM (HR.out.2.still HI.out.1) hin
    have hg := guard_mv
    obtain ⟨x, ex⟩ : ∃ x, mm L i = x := ⟨_, rfl⟩
    obtain ⟨y, ey⟩ : ∃ x, mm M i = x := ⟨_, rfl⟩
    rw [ex] at d0 d1 d2 d3 d4 d5 d6 d7 d8 d9 d10 d11 d12
    rw [ey] at q0 q1 q2 q3 q4 q5 q6 q7 q8 q9 q10 q11 q12
    have HX : Hid (L.getD i zM = x /\ M.getD i zM = y) := hid ⟨ex, ey⟩
    have hq := fun w => neq_mv x y w
    clear ex ey
    cases hb : eqM x y with
    | true =>
     rw [hb] at hq
     have HE : Hid (x = y) := hid (eqM_iff.1 hb)
     have HS := hid HI.out.1
     have HJ : Hid (∀ j, j < i + 1 -> L.getD j zM = M.getD j zM) := hid (fun j hj => by
      by_cases hji : j < i
      ·exact HI.out.2 j hji
      ·obtain rfl : j = i := by omega
       rw [HX.out.1, HX.out.2, HE.out])
     clear HI HX HE hb
     go_wp2_with (first | go_region | fail)
     go_roundw
     case rel => exact ⟨i + 1, by omega, by go_num, hid ⟨by first | exact HS.out | exact HS.out.trans ((Fr.refl _ wr).drew) | exact HS.out.trans ((Fr.refl _ wr).drewN _), HJ.out⟩⟩
     case measure => simp [intOf]; omega
    | false =>
     rw [hb] at hq
     have HS := hid HI.out.1
     have HE : Hid (L ≠ M) := hid (fun e => by
      have h1 := HX.out.1
      rw [e, HX.out.2] at h1
      rw [h1, eqM_refl] at hb
      cases hb)
     clear HI HX hb
     go_wp2_with (first | go_region | fail)
     go_ret
     exact ⟨⟨false, rfl, by simp [HE.out]⟩, by first | exact HS.out | exact HS.out.trans ((Fr.refl _ wr).drew) | exact HS.out.trans ((Fr.refl _ wr).drewN _)⟩
   ·obtain rfl : i = n := by omega
    have HE : Hid (L = M) := hid (eq_lists zM (by omega) (fun j hj => HI.out.2 j (by omega)))
    have HS := hid HI.out.1
    clear HI
    go_wp2_with fail
    go_ret
    exact ⟨⟨true, rfl, by simp [HE.out]⟩, HS.out⟩
 ·have hne : ((n : Int) != (m : Int)) = true := bne_iff_ne.2 (by omega)
  have HE : Hid (L ≠ M) := hid (fun e => by rw [e] at hl1; omega)
  clear ha hb
  go_enter Tryz.func27, Tryz.ntmps27
  go_wp2_with fail
  go_ret
  exact ⟨⟨false, rfl, by simp [HE.out]⟩, Fr.refl _ _⟩
set_option maxHeartbeats 4000000 in
theorem zeqC_any (ao bo : Option Addr) (n m c d : Nat) (L M : List Scr) (w : World) (ha : RdG KC w ao n L) (hb : RdG KC w bo m M) :
  Calls Tryz.prog 28 #[.slice ao n c, .slice bo m d] w fun r w' => (∃ b, r = .returned (.bool b) /\ (b = true ↔ L = M)) /\ Still w w' := by
 have hl1 := ha.1
 have hs1 := ha.2.1
 have hl2 := hb.1
 have hs2 := hb.2.1
 by_cases hnm : n = m
 ·subst hnm
  have hne : ((n : Int) != (n : Int)) = false := by simp
  have HR := hid (And.intro ha hb)
  clear ha hb
  go_enter Tryz.func28, Tryz.ntmps28
  go_wp2_with fail
  go_loopw [13] (fun u13 wr => ∃ (i : Nat), i <= n /\ u13 = .int .i64 (i : Int) /\ Hid (Still w wr /\ ∀ j, j < i -> L.getD j zC = M.getD j zC)) (fun u13 _ => n - (intOf u13).toNat)
  case atStart => exact ⟨0, by omega, rfl, hid ⟨Fr.refl _ _, fun j hj => by omega⟩⟩
  case round =>
   obtain ⟨i, hi, rfl, HI⟩ := hrel
   by_cases hin : i < n
   ·have hlt : (i : Int) < (n : Int) := by omega
    obtain ⟨b1, o1, rfl⟩ := HR.out.1.at (by omega)
    obtain ⟨b2, o2, rfl⟩ := HR.out.2.at (by omega)
    obtain ⟨d0, d1, d2, d3⟩ := rdC (HR.out.1.still HI.out.1) hin
    obtain ⟨q0, q1, q2, q3⟩ := rdC (HR.out.2.still HI.out.1) hin
    have hg := guard_cv
    obtain ⟨x, ex⟩ : ∃ x, sc L i = x := ⟨_, rfl⟩
    obtain ⟨y, ey⟩ : ∃ x, sc M i = x := ⟨_, rfl⟩
    rw [ex] at d0 d1 d2 d3
    rw [ey] at q0 q1 q2 q3
    have HX : Hid (L.getD i zC = x /\ M.getD i zC = y) := hid ⟨ex, ey⟩
    have hq := fun w => neq_cv x y w
    clear ex ey
    cases hb : eqC x y with
    | true =>
     rw [hb] at hq
     have HE : Hid (x = y) := hid (eqC_iff.1 hb)
     have HS := hid HI.out.1
     have HJ : Hid (∀ j, j < i + 1 -> L.getD j zC = M.getD j zC) := hid (fun j hj => by
      by_cases hji : j < i
      ·exact HI.out.2 j hji
      ·obtain rfl : j = i := by omega
       rw [HX.out.1, HX.out.2, HE.out])
     clear HI HX HE hb
     go_wp2_with (first | go_region | fail)
     go_roundw
     case rel => exact ⟨i + 1, by omega, by go_num, hid ⟨by first | exact HS.out | exact HS.out.trans ((Fr.refl _ wr).drew) | exact HS.out.trans ((Fr.refl _ wr).drewN _), HJ.out⟩⟩
     case measure => simp [intOf]; omega
    | false =>
     rw [hb] at hq
     have HS := hid HI.out.1
     have HE : Hid (L ≠ M) := hid (fun e => by
      have h1 := HX.out.1
      rw [e, HX.out.2] at h1
      rw [h1, eqC_refl] at hb
      cases hb)
     clear HI HX hb
     go_wp2_with (first | go_region | fail)
     go_ret
     exact ⟨⟨false, rfl, by simp [HE.out]⟩, by first | exact HS.out | exact HS.out.trans ((Fr.refl _ wr).drew) | exact HS.out.trans ((Fr.refl _ wr).drewN _)⟩
   ·obtain rfl : i = n := by omega
    have HE : Hid (L = M) := hid (eq_lists zC (by omega) (fun j hj => HI.out.2 j (by omega)))
    have HS := hid HI.out.1
    clear HI
    go_wp2_with fail
    go_ret
    exact ⟨⟨true, rfl, by simp [HE.out]⟩, HS.out⟩
 ·have hne : ((n : Int) != (m : Int)) = true := bne_iff_ne.2 (by omega)
  have HE : Hid (L ≠ M) := hid (fun e => by rw [e] at hl1; omega)
  clear ha hb
  go_enter Tryz.func28, Tryz.ntmps28
  go_wp2_with fail
  go_ret
  exact ⟨⟨false, rfl, by simp [HE.out]⟩, Fr.refl _ _⟩
set_option maxHeartbeats 4000000 in
theorem zeqS_any (ao bo : Option Addr) (n m c d : Nat) (L M : List Sh) (w : World) (ha : RdG KS w ao n L) (hb : RdG KS w bo m M) :
  Calls Tryz.prog 29 #[.slice ao n c, .slice bo m d] w fun r w' => (∃ b, r = .returned (.bool b) /\ (b = true ↔ L = M)) /\ Still w w' := by
 have hl1 := ha.1
 have hs1 := ha.2.1
 have hl2 := hb.1
 have hs2 := hb.2.1
 by_cases hnm : n = m
 ·subst hnm
  have hne : ((n : Int) != (n : Int)) = false := by simp
  have HR := hid (And.intro ha hb)
  clear ha hb
  go_enter Tryz.func29, Tryz.ntmps29
  go_wp2_with fail
  go_loopw [13] (fun u13 wr => ∃ (i : Nat), i <= n /\ u13 = .int .i64 (i : Int) /\ Hid (Still w wr /\ ∀ j, j < i -> L.getD j zS = M.getD j zS)) (fun u13 _ => n - (intOf u13).toNat)
  case atStart => exact ⟨0, by omega, rfl, hid ⟨Fr.refl _ _, fun j hj => by omega⟩⟩
  case round =>
   obtain ⟨i, hi, rfl, HI⟩ := hrel
   by_cases hin : i < n
   ·have hlt : (i : Int) < (n : Int) := by omega
    obtain ⟨b1, o1, rfl⟩ := HR.out.1.at (by omega)
    obtain ⟨b2, o2, rfl⟩ := HR.out.2.at (by omega)
    obtain ⟨d0, d1, d2, d3, d4, d5, d6, d7⟩ := rdS (HR.out.1.still HI.out.1) hin
    obtain ⟨q0, q1, q2, q3, q4, q5, q6, q7⟩ := rdS (HR.out.2.still HI.out.1) hin
    have hg := guard_sv
    obtain ⟨x, ex⟩ : ∃ x, ss L i = x := ⟨_, rfl⟩
    obtain ⟨y, ey⟩ : ∃ x, ss M i = x := ⟨_, rfl⟩
    rw [ex] at d0 d1 d2 d3 d4 d5 d6 d7
    rw [ey] at q0 q1 q2 q3 q4 q5 q6 q7
    have HX : Hid (L.getD i zS = x /\ M.getD i zS = y) := hid ⟨ex, ey⟩
    have hq := fun w => neq_sv x y w
    clear ex ey
    cases hb : eqS x y with
    | true =>
     rw [hb] at hq
     have HE : Hid (x = y) := hid (eqS_iff.1 hb)
     have HS := hid HI.out.1
     have HJ : Hid (∀ j, j < i + 1 -> L.getD j zS = M.getD j zS) := hid (fun j hj => by
      by_cases hji : j < i
      ·exact HI.out.2 j hji
      ·obtain rfl : j = i := by omega
       rw [HX.out.1, HX.out.2, HE.out])
     clear HI HX HE hb
     go_wp2_with (first | go_region | fail)
     go_roundw
     case rel => exact ⟨i + 1, by omega, by go_num, hid ⟨by first | exact HS.out | exact HS.out.trans ((Fr.refl _ wr).drew) | exact HS.out.trans ((Fr.refl _ wr).drewN _), HJ.out⟩⟩
     case measure => simp [intOf]; omega
    | false =>
     rw [hb] at hq
     have HS := hid HI.out.1
     have HE : Hid (L ≠ M) := hid (fun e => by
      have h1 := HX.out.1
      rw [e, HX.out.2] at h1
      rw [h1, eqS_refl] at hb
      cases hb)
     clear HI HX hb
     go_wp2_with (first | go_region | fail)
     go_ret
     exact ⟨⟨false, rfl, by simp [HE.out]⟩, by first | exact HS.out | exact HS.out.trans ((Fr.refl _ wr).drew) | exact HS.out.trans ((Fr.refl _ wr).drewN _)⟩
   ·obtain rfl : i = n := by omega
    have HE : Hid (L = M) := hid (eq_lists zS (by omega) (fun j hj => HI.out.2 j (by omega)))
    have HS := hid HI.out.1
    clear HI
    go_wp2_with fail
    go_ret
    exact ⟨⟨true, rfl, by simp [HE.out]⟩, HS.out⟩
 ·have hne : ((n : Int) != (m : Int)) = true := bne_iff_ne.2 (by omega)
  have HE : Hid (L ≠ M) := hid (fun e => by rw [e] at hl1; omega)
  clear ha hb
  go_enter Tryz.func29, Tryz.ntmps29
  go_wp2_with fail
  go_ret
  exact ⟨⟨false, rfl, by simp [HE.out]⟩, Fr.refl _ _⟩
set_option maxHeartbeats 4000000 in
theorem zeqQ_any (ao bo : Option Addr) (n m c d : Nat) (L M : List Pk) (w : World) (ha : RdG KQ w ao n L) (hb : RdG KQ w bo m M) :
  Calls Tryz.prog 30 #[.slice ao n c, .slice bo m d] w fun r w' => (∃ b, r = .returned (.bool b) /\ (b = true ↔ L = M)) /\ Still w w' := by
 have hl1 := ha.1
 have hs1 := ha.2.1
 have hl2 := hb.1
 have hs2 := hb.2.1
 by_cases hnm : n = m
 ·subst hnm
  have hne : ((n : Int) != (n : Int)) = false := by simp
  have HR := hid (And.intro ha hb)
  clear ha hb
  go_enter Tryz.func30, Tryz.ntmps30
  go_wp2_with fail
  go_loopw [13] (fun u13 wr => ∃ (i : Nat), i <= n /\ u13 = .int .i64 (i : Int) /\ Hid (Still w wr /\ ∀ j, j < i -> L.getD j zK = M.getD j zK)) (fun u13 _ => n - (intOf u13).toNat)
  case atStart => exact ⟨0, by omega, rfl, hid ⟨Fr.refl _ _, fun j hj => by omega⟩⟩
  case round =>
   obtain ⟨i, hi, rfl, HI⟩ := hrel
   by_cases hin : i < n
   ·have hlt : (i : Int) < (n : Int) := by omega
    obtain ⟨b1, o1, rfl⟩ := HR.out.1.at (by omega)
    obtain ⟨b2, o2, rfl⟩ := HR.out.2.at (by omega)
    obtain ⟨d0, d1, d2⟩ := rdQ (HR.out.1.still HI.out.1) hin
    obtain ⟨q0, q1, q2⟩ := rdQ (HR.out.2.still HI.out.1) hin
    have hg := guard_kv
    obtain ⟨x, ex⟩ : ∃ x, pk L i = x := ⟨_, rfl⟩
    obtain ⟨y, ey⟩ : ∃ x, pk M i = x := ⟨_, rfl⟩
    rw [ex] at d0 d1 d2
    rw [ey] at q0 q1 q2
    have HX : Hid (L.getD i zK = x /\ M.getD i zK = y) := hid ⟨ex, ey⟩
    have hq := fun w => neq_kv x y w
    clear ex ey
    cases hb : eqK x y with
    | true =>
     rw [hb] at hq
     have HE : Hid (x = y) := hid (eqK_iff.1 hb)
     have HS := hid HI.out.1
     have HJ : Hid (∀ j, j < i + 1 -> L.getD j zK = M.getD j zK) := hid (fun j hj => by
      by_cases hji : j < i
      ·exact HI.out.2 j hji
      ·obtain rfl : j = i := by omega
       rw [HX.out.1, HX.out.2, HE.out])
     clear HI HX HE hb
     go_wp2_with (first | go_region | fail)
     go_roundw
     case rel => exact ⟨i + 1, by omega, by go_num, hid ⟨by first | exact HS.out | exact HS.out.trans ((Fr.refl _ wr).drew) | exact HS.out.trans ((Fr.refl _ wr).drewN _), HJ.out⟩⟩
     case measure => simp [intOf]; omega
    | false =>
     rw [hb] at hq
     have HS := hid HI.out.1
     have HE : Hid (L ≠ M) := hid (fun e => by
      have h1 := HX.out.1
      rw [e, HX.out.2] at h1
      rw [h1, eqK_refl] at hb
      cases hb)
     clear HI HX hb
     go_wp2_with (first | go_region | fail)
     go_ret
     exact ⟨⟨false, rfl, by simp [HE.out]⟩, by first | exact HS.out | exact HS.out.trans ((Fr.refl _ wr).drew) | exact HS.out.trans ((Fr.refl _ wr).drewN _)⟩
   ·obtain rfl : i = n := by omega
    have HE : Hid (L = M) := hid (eq_lists zK (by omega) (fun j hj => HI.out.2 j (by omega)))
    have HS := hid HI.out.1
    clear HI
    go_wp2_with fail
    go_ret
    exact ⟨⟨true, rfl, by simp [HE.out]⟩, HS.out⟩
 ·have hne : ((n : Int) != (m : Int)) = true := bne_iff_ne.2 (by omega)
  have HE : Hid (L ≠ M) := hid (fun e => by rw [e] at hl1; omega)
  clear ha hb
  go_enter Tryz.func30, Tryz.ntmps30
  go_wp2_with fail
  go_ret
  exact ⟨⟨false, rfl, by simp [HE.out]⟩, Fr.refl _ _⟩
end Go.Proofs.YtkgbmefaphhcnaaGreatDoor
namespace Go.Proofs.YtkgbmefaphhcnaaGreatDoor
open Go.RowKit
open Np Za Ka Ja Ea Ha Wp
set_option maxRecDepth 100000
set_option linter.unusedVariables false
set_option linter.unusedSimpArgs false
structure Bsm (w U : World) (g : Nat) (f1 x1 : Int) (a1 b1 c1 d1 : Value) (f2 x2 : Int) (a2 b2 c2 d2 : Value) : Prop where
 l : Wdb U g f1 x1 a1 b1 c1 d1
 r : Wdb U (g + 1) f2 x2 a2 b2 c2 d2
 s : Still w U
theorem Bsm.still {w U V : World} {g : Nat} {f1 x1 : Int} {a1 b1 c1 d1 : Value} {f2 x2 : Int} {a2 b2 c2 d2 : Value} (h : Bsm w U g f1 x1 a1 b1 c1 d1 f2 x2 a2 b2 c2 d2) (hs : Still U V) : Bsm w V g f1 x1 a1 b1 c1 d1 f2 x2 a2 b2 c2 d2 := ⟨h.l.still hs, h.r.still hs, h.s.trans hs⟩
theorem Bsm.new (w : World) (f1 x1 : Int) (a1 b1 c1 d1 : Value) (f2 x2 : Int) (a2 b2 c2 d2 : Value) : Bsm w ((w.alloc (.cells (wdcs f1 x1 a1 b1 c1 d1) 27)).alloc (.cells (wdcs f2 x2 a2 b2 c2 d2) 27)) w.heap.size f1 x1 a1 b1 c1 d1 f2 x2 a2 b2 c2 d2 := by
 have A0 := Still.alloc w (.cells (wdcs f1 x1 a1 b1 c1 d1) 27)
 have A1 := Still.alloc (w.alloc (.cells (wdcs f1 x1 a1 b1 c1 d1) 27)) (.cells (wdcs f2 x2 a2 b2 c2 d2) 27)
 have h1 : Wdb ((w.alloc (.cells (wdcs f1 x1 a1 b1 c1 d1) 27)).alloc (.cells (wdcs f2 x2 a2 b2 c2 d2) 27)) (w.alloc (.cells (wdcs f1 x1 a1 b1 c1 d1) 27)).heap.size f2 x2 a2 b2 c2 d2 := heap_alloc_new _ _
 rw [size_alloc] at h1
 exact ⟨A1.kept_still (heap_alloc_new w _), h1, A0.trans A1⟩
set_option maxHeartbeats 8000000 in
theorem zsame_t (X : Wd) (v u : Value) (w : World) (hv : RdW w v X) (hu : RdW w u X) :
  Calls Tryz.prog 12 #[v, u] w fun e w' => e = .returned (.bool true) /\ Still w w' := by
 obtain ⟨_, _, _, _, rfl, ⟨ao, c1, rfl, _, _, r1⟩, ⟨bo, c2, rfl, _, _, r2⟩, ⟨co, c3, rfl, _, _, r3⟩, ⟨so, c4, rfl, _, _, r4⟩⟩ := hv
 obtain ⟨_, _, _, _, rfl, ⟨ap, e1, rfl, _, _, t1⟩, ⟨bp, e2, rfl, _, _, t2⟩, ⟨cp, e3, rfl, _, _, t3⟩, ⟨sp, e4, rfl, _, _, t4⟩⟩ := hu
 have HM : Hid (∀ x, Still w x -> Calls Tryz.prog 27 #[.slice ao X.ms.length c1, .slice ap X.ms.length e1] x fun r w' => r = .returned (.bool true) /\ Still x w') := hid (fun x hx => (zeqM_any _ _ _ _ c1 e1 X.ms X.ms x (r1.still hx) (t1.still hx)).mono (by rintro r w' ⟨⟨b, rfl, hb⟩, h⟩; exact ⟨by rw [hb.2 rfl], h⟩))
 have HC : Hid (∀ x, Still w x -> Calls Tryz.prog 28 #[.slice bo X.cs.length c2, .slice bp X.cs.length e2] x fun r w' => r = .returned (.bool true) /\ Still x w') := hid (fun x hx => (zeqC_any _ _ _ _ c2 e2 X.cs X.cs x (r2.still hx) (t2.still hx)).mono (by rintro r w' ⟨⟨b, rfl, hb⟩, h⟩; exact ⟨by rw [hb.2 rfl], h⟩))
 have HS : Hid (∀ x, Still w x -> Calls Tryz.prog 29 #[.slice co X.hs.length c3, .slice cp X.hs.length e3] x fun r w' => r = .returned (.bool true) /\ Still x w') := hid (fun x hx => (zeqS_any _ _ _ _ c3 e3 X.hs X.hs x (r3.still hx) (t3.still hx)).mono (by rintro r w' ⟨⟨b, rfl, hb⟩, h⟩; exact ⟨by rw [hb.2 rfl], h⟩))
 have HQ : Hid (∀ x, Still w x -> Calls Tryz.prog 30 #[.slice so X.ks.length c4, .slice sp X.ks.length e4] x fun r w' => r = .returned (.bool true) /\ Still x w') := hid (fun x hx => (zeqQ_any _ _ _ _ c4 e4 X.ks X.ks x (r4.still hx) (t4.still hx)).mono (by rintro r w' ⟨⟨b, rfl, hb⟩, h⟩; exact ⟨by rw [hb.2 rfl], h⟩))
 have hf : (X.fr == X.fr) = true := by simp
 have hn : (X.nx == X.nx) = true := by simp
 have B0 := Bsm.new w X.fr X.nx (.slice ao X.ms.length c1) (.slice bo X.cs.length c2) (.slice co X.hs.length c3) (.slice so X.ks.length c4) X.fr X.nx (.slice ap X.ms.length e1) (.slice bp X.cs.length e2) (.slice cp X.hs.length e3) (.slice sp X.ks.length e4)
 obtain ⟨U, eU⟩ : ∃ U, (w.alloc (.cells (wdcs X.fr X.nx (.slice ao X.ms.length c1) (.slice bo X.cs.length c2) (.slice co X.hs.length c3) (.slice so X.ks.length c4)) 27)).alloc (.cells (wdcs X.fr X.nx (.slice ap X.ms.length e1) (.slice bp X.cs.length e2) (.slice cp X.hs.length e3) (.slice sp X.ks.length e4)) 27) = U := ⟨_, rfl⟩
 obtain ⟨g, eg⟩ : ∃ g, w.heap.size = g := ⟨_, rfl⟩
 rw [eU, eg] at B0
 have HB0 := hid B0
 obtain ⟨d0, d1, d2, d3, d4, d5, _⟩ := B0.l.cells
 obtain ⟨q0, q1, q2, q3, q4, q5, _⟩ := B0.r.cells
 clear B0 r1 r2 r3 r4 t1 t2 t3 t4
 go_enter Tryz.func12, Tryz.ntmps12
 go_wp2_with fail
 refine (HM.out _ HB0.out.s).mono ?_
 rintro e w1 ⟨he, h1⟩
 rw [he]
 have HB1 := hid (HB0.out.still h1)
 clear he h1 HM HB0 d0 d1 d2 d3 d4 d5 q0 q1 q2 q3 q4 q5 eU eg
 obtain ⟨d0, d1, d2, d3, d4, d5, _⟩ := HB1.out.l.cells
 obtain ⟨q0, q1, q2, q3, q4, q5, _⟩ := HB1.out.r.cells
 go_wp2_with fail
 refine (HC.out _ HB1.out.s).mono ?_
 rintro e w2 ⟨he, h2⟩
 rw [he]
 have HB2 := hid (HB1.out.still h2)
 clear he h2 HC HB1 d0 d1 d2 d3 d4 d5 q0 q1 q2 q3 q4 q5
 obtain ⟨d0, d1, d2, d3, d4, d5, _⟩ := HB2.out.l.cells
 obtain ⟨q0, q1, q2, q3, q4, q5, _⟩ := HB2.out.r.cells
 go_wp2_with fail
 refine (HS.out _ HB2.out.s).mono ?_
 rintro e w3 ⟨he, h3⟩
 rw [he]
 have HB3 := hid (HB2.out.still h3)
 clear he h3 HS HB2 d0 d1 d2 d3 d4 d5 q0 q1 q2 q3 q4 q5
 obtain ⟨d0, d1, d2, d3, d4, d5, _⟩ := HB3.out.l.cells
 obtain ⟨q0, q1, q2, q3, q4, q5, _⟩ := HB3.out.r.cells
 go_wp2_with fail
 refine (HQ.out _ HB3.out.s).mono ?_
 rintro e w4 ⟨he, h4⟩
 rw [he]
 have HB4 := hid (HB3.out.still h4)
 clear he h4 HQ HB3 d0 d1 d2 d3 d4 d5 q0 q1 q2 q3 q4 q5
 go_wp2_with fail
 go_ret
 exact ⟨rfl, HB4.out.s⟩
end Go.Proofs.YtkgbmefaphhcnaaGreatDoor
namespace Go.Proofs.YtkgbmefaphhcnaaGreatDoor
open Go.RowKit
open Pu Gp Ap Vp Np Za Ka Ja Ea Ha
set_option maxRecDepth 100000
set_option linter.unusedVariables false
set_option linter.unusedSimpArgs false
end Go.Proofs.YtkgbmefaphhcnaaGreatDoor
