/- Parts of the proof, laid end to end. -/
import Derived.Test.YthcjckgmdokmdaaGreatDoorXS12
import Derived.Test.YthcjckgmdokmdaaGreatDoorXS01
import Derived.Test.YthcjckgmdokmdaaGreatDoorXS03
import Derived.Test.YthcjckgmdokmdaaGreatDoorXS05
import Derived.Laws.BitsLemmas
namespace Go.Proofs.YthcjckgmdokmdaaGreatDoor
open Go.RowKit
open Pu Gp Np Za Ka Ja Ea Ha
set_option maxRecDepth 100000
structure Cr where
 pe : Int
 bx : Int
 bz : Int
 ax : Int
 az : Int
 hl : Int
 po : Int
def zCr : Cr := ⟨0, 0, 0, 0, 0, 0, 0⟩
abbrev crcs (x : Cr) : Array Value := #[.int .i64 x.pe, .int .i64 x.bx, .int .i64 x.bz, .int .i64 x.ax, .int .i64 x.az, .int .i64 x.hl, .int .i64 x.po]
def KCr : Kd Cr := ⟨fun x => (crcs x).toList, 7, zCr, fun _ => rfl, fun m u hu => by
 simp at hu
 rcases hu with rfl | rfl | rfl | rfl | rfl | rfl | rfl <;> rfl, by decide⟩
theorem infoCr : ∃ i, Tryz.prog.info? 63 = some i /\ i.zero = some (.agg (KCr.f KCr.d).toArray) /\ i.size = KCr.k /\ i.bytes = 56 := ⟨_, rfl, rfl, rfl, rfl⟩
def Crb (w : World) (g : Nat) (x : Cr) : Prop := w.heap[g]? = some (.cells (crcs x) 63 (0, 0))
theorem Crb.still {w w' : World} {g : Nat} {x : Cr} (h : Crb w g x) (hs : Still w w') : Crb w' g x := hs.kept_still h
theorem Crb.cells {w : World} {g : Nat} {x : Cr} (h : Crb w g x) : w.cell? ⟨g, 0, none⟩ = some (.int .i64 x.pe) /\ w.cell? ⟨g, 1, none⟩ = some (.int .i64 x.bx) /\ w.cell? ⟨g, 2, none⟩ = some (.int .i64 x.bz) /\ w.cell? ⟨g, 3, none⟩ = some (.int .i64 x.ax) /\ w.cell? ⟨g, 4, none⟩ = some (.int .i64 x.az) /\ w.cell? ⟨g, 5, none⟩ = some (.int .i64 x.hl) /\ w.cell? ⟨g, 6, none⟩ = some (.int .i64 x.po) /\ ∀ o, w.frozen? ⟨g, o, none⟩ = false := by
 refine ⟨?_, ?_, ?_, ?_, ?_, ?_, ?_, fun o => frozen_of_row w g o _ _ h⟩ <;> (rw [cell_of_row _ _ _ _ _ _ h]; rfl)
def crV (i : Nat) (a b : Mv) (s t : Scr) : Cr := ⟨(i : Int), a.ax, a.ay, b.ax, b.ay, wrap64 (b.hl - a.hl), wrap64 (t.p - s.p)⟩
def crB (a b : Mv) (s t : Scr) : Bool := !(a.ax == b.ax && a.ay == b.ay) || a.hl != b.hl || s.p != t.p
def crN (M M' : List Mv) (C C' : List Scr) : Nat -> List Cr
 | 0 => []
 | i + 1 => crN M M' C C' i ++ (if crB (mm M i) (mm M' i) (sc C i) (sc C' i) then [crV i (mm M i) (mm M' i) (sc C i) (sc C' i)] else [])
theorem crN_len (M M' : List Mv) (C C' : List Scr) : ∀ i, (crN M M' C C' i).length <= i
 | 0 => Nat.le_refl _
 | i + 1 => by
  have := crN_len M M' C C' i
  rw [crN, List.length_append]
  split <;> simp <;> omega
end Go.Proofs.YthcjckgmdokmdaaGreatDoor
namespace Go.Proofs.YthcjckgmdokmdaaGreatDoor
open Go.RowKit
open Pu Gp Np Za Ka Ja Ea Ha
set_option maxRecDepth 100000
abbrev crv (x : Cr) : Value := .agg (crcs x)
theorem part_cr (x : Cr) (w : World) : (part 3 (crcs x) 0).run Tryz.prog w = .ok (.int .i64 x.pe) w /\ (part 54 (crcs x) 1).run Tryz.prog w = .ok (pt x.bx x.bz) w /\ (part 54 (crcs x) 3).run Tryz.prog w = .ok (pt x.ax x.az) w /\ (part 3 (crcs x) 5).run Tryz.prog w = .ok (.int .i64 x.hl) w /\ (part 3 (crcs x) 6).run Tryz.prog w = .ok (.int .i64 x.po) w := by
 refine ⟨?_, ?_, ?_, ?_, ?_⟩ <;> go_simp
def eqR (x y : Cr) : Bool := (x.pe == y.pe) && ((x.bx == y.bx && x.bz == y.bz) && ((x.ax == y.ax && x.az == y.az) && ((x.hl == y.hl) && (x.po == y.po))))
theorem eqR_refl (x : Cr) : eqR x x = true := by unfold eqR; simp
theorem equal_cr (x y : Cr) (w : World) : (Op.equalIn 10000 63 (crv x) (crv y)).run Tryz.prog w = .ok (eqR x y) w := by
 have a0 := fun w => (part_cr x w).1
 have a1 := fun w => (part_cr x w).2.1
 have a2 := fun w => (part_cr x w).2.2.1
 have a3 := fun w => (part_cr x w).2.2.2.1
 have a4 := fun w => (part_cr x w).2.2.2.2
 have b0 := fun w => (part_cr y w).1
 have b1 := fun w => (part_cr y w).2.1
 have b2 := fun w => (part_cr y w).2.2.1
 have b3 := fun w => (part_cr y w).2.2.2.1
 have b4 := fun w => (part_cr y w).2.2.2.2
 have r0 := fun w => equal_int 9998 x.pe y.pe w
 have q1 := fun w => equal_pt 9997 x.bx x.bz y.bx y.bz w
 have q2 := fun w => equal_pt 9997 x.ax x.az y.ax y.az w
 have r3 := fun w => equal_int 9998 x.hl y.hl w
 have r4 := fun w => equal_int 9998 x.po y.po w
 rw [run_equalIn_struct w 9999 _ _ _ (by kernel_rfl) (by kernel_rfl)]
 have e : (Tryz.prog.fieldsOf 63) = #[⟨ "Peer", 3, 0, false, "", "", 0⟩, ⟨ "Before", 54, 1, false, "", "", 8⟩, ⟨ "After", 54, 3, false, "", "", 24⟩, ⟨ "Health", 3, 5, false, "", "", 40⟩, ⟨ "Points", 3, 6, false, "", "", 48⟩] := by kernel_rfl
 rw [e]
 simp only [Op.eqFields, ne_eq, String.reduceEq, not_false_eq_true, if_true, Sem.run_bind, a0, a1, a2, a3, a4, b0, b1, b2, b3, b4, Result.andThen_ok, r0, q1, q2, r3, r4, Sem.run_ite, Sem.run_pure]
 unfold eqR
 exact st (st (st (st (st1 _))))
theorem eql_cr_t (x : Cr) (w : World) : (binOp .eql 63 (crv x) (crv x)).run Tryz.prog w = .ok (.bool true) w := by
 rw [run_eql_struct, equal_cr, eqR_refl]; rfl
theorem rd_blk {α : Type} {K : Kd α} {w : World} {B : Nat} {cur : Array Value} {t : TypeId} (h : w.heap[B]? = some (.cells cur t (0, 0))) (L : List α) (hc : cur.toList = K.row L) (hn : L.length <= 281474976710656) : RdG K w (some ⟨B, 0, none⟩) L.length L := by
 refine ⟨rfl, hn, .inr ⟨B, 0, rfl, fun i hi j u hu => ?_⟩⟩
 have hj : j < K.k := by
  have := (List.getElem?_eq_some_iff.1 hu).1
  rwa [K.len] at this
 rw [cell_of_row _ _ _ _ _ _ h, Nat.zero_add, <- Array.getElem?_toList, hc, K.row_get L i j hi hj]
 exact hu
end Go.Proofs.YthcjckgmdokmdaaGreatDoor
namespace Go.Proofs.YthcjckgmdokmdaaGreatDoor
open Go.RowKit
open Pu Gp Np Za Ka Ja Ea Ha
set_option maxRecDepth 100000
def InH (M : List Mv) (C : List Scr) : Prop := ∀ i, I64 (mm M i).hl /\ I64 (sc C i).p
theorem inH_of {M : List Mv} {C : List Scr} (h1 : ∀ m ∈ M, I64 m.hl) (h2 : ∀ s ∈ C, I64 s.p) : InH M C := by
 refine fun i => ⟨?_, ?_⟩
 ·unfold mm
  by_cases h : i < M.length
  ·rw [List.getD_eq_getElem?_getD, List.getElem?_eq_getElem h]
   exact h1 _ (List.getElem_mem h)
  ·rw [List.getD_eq_getElem?_getD, List.getElem?_eq_none (by omega)]
   simp [I64, zM]
 ·unfold sc
  by_cases h : i < C.length
  ·rw [List.getD_eq_getElem?_getD, List.getElem?_eq_getElem h]
   exact h2 _ (List.getElem_mem h)
  ·rw [List.getD_eq_getElem?_getD, List.getElem?_eq_none (by omega)]
   simp [I64, zC]
structure Cts23 (x : World) : Prop where
 notes : ∀ (L : List Nv) (ao : Option Addr) (n cap : Nat) (u : World), Still x u -> (∀ y ∈ L, I64 y.a /\ I64 y.b) -> RdG KNv u ao n L -> n <= cap -> n <= 2097152 -> Calls Tryz.prog 11 #[.slice ao n cap] u fun e w' => e = .returned (.tuple #[.string (ntR L), .int .i64 (ntE L)]) /\ Still u w'
 print : ∀ (c : Ctr) (u : World), Still x u -> c.In -> Calls Tryz.prog 12 #[.agg (ctcs c)] u fun e w' => e = .returned (.string (prS c)) /\ Still u w'
 cno : ∀ (f1 x1 f2 x2 : Int) (ao bo co so p1 q1 r1 t1 : Option Addr) (ac bc cc sc' p2 p3 q2 q3 r2 r3 t2 t3 : Nat) (n1 n2 n3 n4 : Nat) (u : World), Still x u -> ¬ (n2 = n1 /\ n3 = n1 /\ n4 = n1) -> Calls Tryz.prog 13 #[.agg (wdcs f1 x1 (.slice ao n1 ac) (.slice bo n3 bc) (.slice p1 p2 p3) (.slice q1 q2 q3)), .agg (wdcs f2 x2 (.slice co n2 cc) (.slice so n4 sc') (.slice r1 r2 r3) (.slice t1 t2 t3))] u fun e w' => e = .returned (.tuple #[.slice none 0 0, .int .i64 230]) /\ Still u w'
 cyes : ∀ (f1 x1 f2 x2 : Int) (ao bo co so p1 q1 r1 t1 : Option Addr) (ac bc cc sc' p2 p3 q2 q3 r2 r3 t2 t3 : Nat) (n : Nat) (M M' : List Mv) (C C' : List Scr) (u : World), Still x u -> RdG KM u ao n M -> RdG KC u bo n C -> RdG KM u co n M' -> RdG KC u so n C' -> InH M C -> InH M' C' -> (n + 1) * 56 <= 140737488355328 -> Calls Tryz.prog 13 #[.agg (wdcs f1 x1 (.slice ao n ac) (.slice bo n bc) (.slice p1 p2 p3) (.slice q1 q2 q3)), .agg (wdcs f2 x2 (.slice co n cc) (.slice so n sc') (.slice r1 r2 r3) (.slice t1 t2 t3))] u fun e w' => ∃ v, e = .returned (.tuple #[v, .int .i64 0]) /\ OwG KCr 63 w' u.heap.size v (crN M M' C C' n) /\ Still u w'
theorem itS_dig {k : Nat} (h : k < 10) : itS (k : Int) = ⟨#[UInt8.ofNat (48 + k)]⟩ := by
 unfold itS Lib.itoa
 rw [if_neg (by omega), Lib.decDigits, dif_pos (by omega)]
 simp
def L3 : List Nv := [⟨1, 0, 7⟩, ⟨5, 2, 3⟩, ⟨6, 3, 2⟩]
def L9 : List Nv := [⟨9, 0, 0⟩]
theorem nt_3 : ntR L3 = ⟨#[65, 32, 102, 105, 114, 101, 100, 32, 55, 10, 67, 32, 116, 111, 111, 107, 32, 112, 114, 105, 122, 101, 10, 115, 112, 111, 116, 32, 51, 32, 99, 104, 97, 114, 103, 101, 10]⟩ /\ ntE L3 = 0 := by
 have h : L3.all okN = true := by decide
 refine ⟨(nt_yes h).1.trans ?_, (nt_yes h).2⟩
 have e7 : itS 7 = ⟨#[55]⟩ := itS_dig (k := 7) (by decide)
 have e3 : itS 3 = ⟨#[51]⟩ := itS_dig (k := 3) (by decide)
 show ((((((ByteArray.empty ++ lnS ⟨1, 0, 7⟩) ++ ⟨#[10]⟩) ++ lnS ⟨5, 2, 3⟩) ++ ⟨#[10]⟩) ++ lnS ⟨6, 3, 2⟩) ++ ⟨#[10]⟩) = _
 have a1 : lnS ⟨1, 0, 7⟩ = (ltS 0 ++ ⟨#[32, 102, 105, 114, 101, 100, 32]⟩) ++ itS 7 := rfl
 have a2 : lnS ⟨5, 2, 3⟩ = (ltS 2 ++ ⟨#[32, 116, 111, 111, 107, 32]⟩) ++ thgS 3 := rfl
 have a3 : lnS ⟨6, 3, 2⟩ = ((⟨#[115, 112, 111, 116, 32]⟩ ++ itS 3) ++ ⟨#[32]⟩) ++ thgS 2 := rfl
 rw [a1, a2, a3, e7, e3]
 rfl
theorem nt_9 : ntR L9 = ByteArray.empty /\ ntE L9 = 230 := nt_no (by decide)
def zCt : Ctr := ⟨0, 0, 0, 0, 0, 0, 0, 0, 0⟩
theorem pr_0 : prS zCt = ⟨#[116, 105, 99, 107, 115, 32, 48, 32, 115, 116, 97, 108, 108, 115, 32, 48, 32, 115, 116, 101, 112, 115, 32, 48, 32, 99, 111, 112, 105, 101, 115, 32, 48, 32, 108, 97, 116, 101, 32, 48, 32, 115, 101, 110, 116, 32, 48, 32, 103, 111, 116, 32, 48, 32, 114, 101, 102, 117, 115, 101, 100, 32, 48, 32, 97, 99, 99, 101, 112, 116, 101, 100, 32, 48]⟩ := by
 have e0 : itS 0 = ⟨#[48]⟩ := itS_dig (k := 0) (by decide)
 unfold prS zCt
 simp only [e0]
 rfl
def m49 : Mv := { zM with ax := 4, ay := 9 }
def m44 : Mv := { zM with ax := 4, ay := 4 }
def s10 : Scr := { zC with p := 10 }
def r23 : Cr := ⟨1, 4, 9, 4, 4, 0, 10⟩
theorem cr_2 : crN [zM, m49] [zM, m44] [zC, zC] [zC, s10] 2 = [r23] := by
 have e0 : wrap64 0 = 0 := by unfold wrap64; omega
 have e1 : wrap64 10 = 10 := by unfold wrap64; omega
 simp [crN, crB, crV, mm, sc, m49, m44, s10, r23, zM, zC, List.getD, e0, e1]
set_option maxHeartbeats 8000000 in
theorem awake23_any (x w : World) (C : Cts23 x) (hx : Still x w) : Calls Tryz.prog 5 #[] w fun e w' => e = .returned (.bool true) /\ Still w w' := by
 have HC := hid C
 have HX := hid hx
 have A1 := Still.alloc w (.cells #[.int .i64 1, .int .i64 0, .int .i64 7, .int .i64 5, .int .i64 2, .int .i64 3, .int .i64 6, .int .i64 3, .int .i64 2] 49)
 have r1 : RdG KNv (w.alloc (.cells #[.int .i64 1, .int .i64 0, .int .i64 7, .int .i64 5, .int .i64 2, .int .i64 3, .int .i64 6, .int .i64 3, .int .i64 2] 49)) (some ⟨w.heap.size, 0, none⟩) 3 L3 := rd_blk (heap_alloc_new w _) L3 rfl (by decide)
 have H1 := hid (C.notes L3 _ 3 3 _ (hx.trans A1) (by simp [L3, I64]) r1 (Nat.le_refl _) (by decide))
 rw [nt_3.1, nt_3.2] at H1
 have HA1 := hid A1
 clear C hx A1 r1
 go_enter Tryz.func5, Tryz.ntmps5
 go_wp2_with fail
 refine H1.out.mono ?_
 rintro e w1 ⟨rfl, h1⟩
 have HS1 := hid (HA1.out.trans h1)
 have A2 := Still.alloc w1 (.cells #[.int .i64 9, .int .i64 0, .int .i64 0] 49)
 have r2 : RdG KNv (w1.alloc (.cells #[.int .i64 9, .int .i64 0, .int .i64 0] 49)) (some ⟨w1.heap.size, 0, none⟩) 1 L9 := rd_blk (heap_alloc_new w1 _) L9 rfl (by decide)
 have H2 := hid (HC.out.notes L9 _ 1 1 _ ((HX.out.trans HS1.out).trans A2) (by simp [L9, I64]) r2 (Nat.le_refl _) (by decide))
 rw [nt_9.1, nt_9.2] at H2
 have HA2 := hid A2
 clear A2 r2 h1 H1 HA1
 go_wp2_with fail
 refine H2.out.mono ?_
 rintro e w2 ⟨rfl, h2⟩
 have HS2 := hid (HS1.out.trans (HA2.out.trans h2))
 have H3 := hid (HC.out.print zCt w2 (HX.out.trans HS2.out) (by simp [Ctr.In, zCt, I64]))
 rw [pr_0] at H3
 clear h2 H2 HA2 HS1
 go_wp2_with fail
 refine H3.out.mono ?_
 rintro e w3 ⟨rfl, h3⟩
 have HS3 := hid (HS2.out.trans h3)
 clear h3 H3 HS2
 obtain ⟨mk0, mo⟩ := makeG KC (t := 29) Tryz.underlying29 32 infoC 2 (by omega) (by omega)
 obtain ⟨Z8, eZ⟩ : ∃ z, madeCells (KC.f KC.d).toArray (2 * KC.k) = z := ⟨_, rfl⟩
 rw [eZ] at mk0 mo
 have mk : ∀ W : World, (Instr.makeSlice 29 (.int .i64 2) (.int .i64 2)).run Tryz.prog W = .ok (.slice (some ⟨W.heap.size, 0, none⟩) 2 2) (W.alloc (.cells Z8 61)) := mk0
 have A4 := Still.alloc w3 (.cells #[.int .i64 0, .int .i64 0, .int .i64 0, .int .i64 0, .int .i64 0, .int .i64 0, .int .i64 0, .int .i64 0, .int .i64 0, .bool false, .int .i64 0, .int .i64 0, .int .i64 0, .int .i64 4, .int .i64 9, .int .i64 0, .int .i64 0, .int .i64 0, .int .i64 0, .int .i64 0, .int .i64 0, .int .i64 0, .bool false, .int .i64 0, .int .i64 0, .int .i64 0] 56)
 have r4 : RdG KM (w3.alloc (.cells #[.int .i64 0, .int .i64 0, .int .i64 0, .int .i64 0, .int .i64 0, .int .i64 0, .int .i64 0, .int .i64 0, .int .i64 0, .bool false, .int .i64 0, .int .i64 0, .int .i64 0, .int .i64 4, .int .i64 9, .int .i64 0, .int .i64 0, .int .i64 0, .int .i64 0, .int .i64 0, .int .i64 0, .int .i64 0, .bool false, .int .i64 0, .int .i64 0, .int .i64 0] 56)) (some ⟨w3.heap.size, 0, none⟩) 2 [zM, m49] := rd_blk (heap_alloc_new w3 _) [zM, m49] rfl (by decide)
 obtain ⟨W4, eW4⟩ : ∃ X, w3.alloc (.cells #[.int .i64 0, .int .i64 0, .int .i64 0, .int .i64 0, .int .i64 0, .int .i64 0, .int .i64 0, .int .i64 0, .int .i64 0, .bool false, .int .i64 0, .int .i64 0, .int .i64 0, .int .i64 4, .int .i64 9, .int .i64 0, .int .i64 0, .int .i64 0, .int .i64 0, .int .i64 0, .int .i64 0, .int .i64 0, .bool false, .int .i64 0, .int .i64 0, .int .i64 0] 56) = X := ⟨_, rfl⟩
 have z4 : W4.heap.size = w3.heap.size + 1 := by rw [<- eW4, size_alloc]
 rw [eW4] at A4 r4
 have A5 := Still.alloc W4 (.cells #[.int .i64 0, .int .i64 0, .int .i64 0, .int .i64 0, .int .i64 0, .int .i64 0, .int .i64 0, .int .i64 0, .int .i64 0, .bool false, .int .i64 0, .int .i64 0, .int .i64 0, .int .i64 4, .int .i64 4, .int .i64 0, .int .i64 0, .int .i64 0, .int .i64 0, .int .i64 0, .int .i64 0, .int .i64 0, .bool false, .int .i64 0, .int .i64 0, .int .i64 0] 56)
 have r5 : RdG KM (W4.alloc (.cells #[.int .i64 0, .int .i64 0, .int .i64 0, .int .i64 0, .int .i64 0, .int .i64 0, .int .i64 0, .int .i64 0, .int .i64 0, .bool false, .int .i64 0, .int .i64 0, .int .i64 0, .int .i64 4, .int .i64 4, .int .i64 0, .int .i64 0, .int .i64 0, .int .i64 0, .int .i64 0, .int .i64 0, .int .i64 0, .bool false, .int .i64 0, .int .i64 0, .int .i64 0] 56)) (some ⟨W4.heap.size, 0, none⟩) 2 [zM, m44] := rd_blk (heap_alloc_new W4 _) [zM, m44] rfl (by decide)
 obtain ⟨W5, eW5⟩ : ∃ X, W4.alloc (.cells #[.int .i64 0, .int .i64 0, .int .i64 0, .int .i64 0, .int .i64 0, .int .i64 0, .int .i64 0, .int .i64 0, .int .i64 0, .bool false, .int .i64 0, .int .i64 0, .int .i64 0, .int .i64 4, .int .i64 4, .int .i64 0, .int .i64 0, .int .i64 0, .int .i64 0, .int .i64 0, .int .i64 0, .int .i64 0, .bool false, .int .i64 0, .int .i64 0, .int .i64 0] 56) = X := ⟨_, rfl⟩
 have z5 : W5.heap.size = w3.heap.size + 1 + 1 := by rw [<- eW5, size_alloc, z4]
 rw [eW5, z4] at r5
 rw [eW5] at A5
 have A6 := Still.alloc W5 (.cells Z8 61)
 have r6 : RdG KC (W5.alloc (.cells Z8 61)) (some ⟨W5.heap.size, 0, none⟩) 2 [zC, zC] := OwG.rd (L := [zC, zC]) (M := []) (mo W5) (by decide)
 obtain ⟨W6, eW6⟩ : ∃ X, W5.alloc (.cells Z8 61) = X := ⟨_, rfl⟩
 have z6 : W6.heap.size = w3.heap.size + 1 + 1 + 1 := by rw [<- eW6, size_alloc, z5]
 rw [eW6, z5] at r6
 rw [eW6] at A6
 have A7 := Still.alloc W6 (.cells #[.int .i64 0, .int .i64 0, .int .i64 0, .int .i64 0, .int .i64 10, .int .i64 0, .int .i64 0, .int .i64 0] 61)
 have r7 : RdG KC (W6.alloc (.cells #[.int .i64 0, .int .i64 0, .int .i64 0, .int .i64 0, .int .i64 10, .int .i64 0, .int .i64 0, .int .i64 0] 61)) (some ⟨W6.heap.size, 0, none⟩) 2 [zC, s10] := rd_blk (heap_alloc_new W6 _) [zC, s10] rfl (by decide)
 obtain ⟨W7, eW7⟩ : ∃ X, W6.alloc (.cells #[.int .i64 0, .int .i64 0, .int .i64 0, .int .i64 0, .int .i64 10, .int .i64 0, .int .i64 0, .int .i64 0] 61) = X := ⟨_, rfl⟩
 rw [eW7, z6] at r7
 rw [eW7] at A7
 have HS7 := hid (HS3.out.trans (A4.trans (A5.trans (A6.trans A7))))
 have H4 := hid (HC.out.cyes 0 0 0 0 (some ⟨w3.heap.size, 0, none⟩) (some ⟨w3.heap.size + 1 + 1, 0, none⟩) (some ⟨w3.heap.size + 1, 0, none⟩) (some ⟨w3.heap.size + 1 + 1 + 1, 0, none⟩) none none none none 2 2 2 2 0 0 0 0 0 0 0 0 2 [zM, m49] [zM, m44] [zC, zC] [zC, s10] W7 (HX.out.trans HS7.out) (r4.still (A5.trans (A6.trans A7))) (r6.still A7) (r5.still (A6.trans A7)) r7 (inH_of (by simp [I64, zM, m49]) (by simp [I64, zC])) (inH_of (by simp [I64, zM, m44]) (by simp [I64, zC, s10])) (by decide))
 rw [cr_2] at H4
 clear A4 A5 A6 A7 r4 r5 r6 r7 mk0 mo eZ HS3 HC HX
 go_wp2_with fail
 refine H4.out.mono ?_
 rintro e w8 ⟨v8, rfl, ho, h8⟩
 obtain ⟨g, cp, rfl, _, _⟩ := ho.head (by decide)
 have HS8 := hid (HS7.out.trans h8)
 have e0 := ho.get (i := 0) (by decide) 0 _ rfl
 have e1 := ho.get (i := 0) (by decide) 1 _ rfl
 have e2 := ho.get (i := 0) (by decide) 2 _ rfl
 have e3 := ho.get (i := 0) (by decide) 3 _ rfl
 have e4 := ho.get (i := 0) (by decide) 4 _ rfl
 have e5 := ho.get (i := 0) (by decide) 5 _ rfl
 have e6 := ho.get (i := 0) (by decide) 6 _ rfl
 simp only [Nat.zero_mul, Nat.zero_add, Nat.add_zero] at e0 e1 e2 e3 e4 e5 e6
 have E1 := eql_cr_t r23
 clear h8 ho H4 eW4 eW5 eW6 eW7 z4 z5 z6 mk HS7
 go_wp2_with fail
 go_ret
 exact ⟨rfl, HS8.out⟩
end Go.Proofs.YthcjckgmdokmdaaGreatDoor
namespace Go.Proofs.YthcjckgmdokmdaaGreatDoor
open Go.RowKit
open Pu Gp Np Za Ka Ja Ea Ha
set_option maxRecDepth 100000
def fstB (P : Nat -> Bool) : Nat -> Option Nat
 | 0 => none
 | n + 1 => match fstB P n with
  | some k => some k
  | none => if P n then some n else none
theorem fst_no {P : Nat -> Bool} {i : Nat} (h : fstB P i = none) (hp : P i = false) : fstB P (i + 1) = none := by simp [fstB, h, hp]
theorem fst_yes {P : Nat -> Bool} {i : Nat} (h : fstB P i = none) (hp : P i = true) : ∀ n, i < n -> fstB P n = some i
 | n + 1, hn => by
  by_cases e : i = n
  ·subst e
   simp [fstB, h, hp]
  ·simp [fstB, fst_yes h hp n (by omega)]
def pkS (k : Int) : ByteArray := if k = 1 then ⟨#[104]⟩ else if k = 2 then ⟨#[99]⟩ else ⟨#[112]⟩
def sgS (b : Bool) (P Q R : Nat -> Bool) (kd : Nat -> Int) (n m k : Nat) : ByteArray :=
 if b then ⟨#[35]⟩ else match fstB P n with
  | some i => ltS i
  | none => match fstB Q m with
   | some _ => ⟨#[111]⟩
   | none => match fstB R k with
    | some i => pkS (kd i)
    | none => ⟨#[46]⟩
theorem sg_1 {P Q R : Nat -> Bool} {kd : Nat -> Int} {n m k i : Nat} (h : fstB P n = some i) : sgS false P Q R kd n m k = ltS i := by simp [sgS, h]
theorem sg_2 {P Q R : Nat -> Bool} {kd : Nat -> Int} {n m k i : Nat} (h : fstB P n = none) (h2 : fstB Q m = some i) : sgS false P Q R kd n m k = ⟨#[111]⟩ := by simp [sgS, h, h2]
theorem sg_3 {P Q R : Nat -> Bool} {kd : Nat -> Int} {n m k i : Nat} (h : fstB P n = none) (h2 : fstB Q m = none) (h3 : fstB R k = some i) : sgS false P Q R kd n m k = pkS (kd i) := by simp [sgS, h, h2, h3]
theorem sg_4 {P Q R : Nat -> Bool} {kd : Nat -> Int} {n m k : Nat} (h : fstB P n = none) (h2 : fstB Q m = none) (h3 : fstB R k = none) : sgS false P Q R kd n m k = ⟨#[46]⟩ := by simp [sgS, h, h2, h3]
def Pkv (w : World) (g : Nat) (a b c : Int) : Prop := w.heap[g]? = some (.cells #[.int .i64 a, .int .i64 b, .int .i64 c] 124 (0, 0))
theorem Pkv.still {w w' : World} {g : Nat} {a b c : Int} (h : Pkv w g a b c) (hs : Still w w') : Pkv w' g a b c := hs.kept_still h
theorem Pkv.cells {w : World} {g : Nat} {a b c : Int} (h : Pkv w g a b c) : w.cell? ⟨g, 0, none⟩ = some (.int .i64 a) /\ w.cell? ⟨g, 1, none⟩ = some (.int .i64 b) /\ w.cell? ⟨g, 2, none⟩ = some (.int .i64 c) /\ ∀ o, w.frozen? ⟨g, o, none⟩ = false := by
 refine ⟨?_, ?_, ?_, fun o => frozen_of_row w g o _ _ h⟩ <;> (rw [cell_of_row _ _ _ _ _ _ h]; rfl)
def mvP (M : List Mv) (c r i : Nat) : Bool := decide ((mm M i).ou = 0) && ivB (mm M i).ax (mm M i).ay c r
def shP (H : List Sh) (c r i : Nat) : Bool := ivB (ss H i).ax (ss H i).ay c r
def pkP (K : List Pk) (sp : List (Int × Int)) (c r i : Nat) : Bool := ivB (pp sp (pk K i).sp.toNat).1 (pp sp (pk K i).sp.toNat).2 c r
set_option maxHeartbeats 8000000 in
theorem rsgn23_any (p q C R : Int) (s : ByteArray) (fr nx : Int) (lo ao bo co xo po : Option Addr) (ln lc ac bn bc cc xc pc : Nat) (M : List Mv) (H : List Sh) (K : List Pk) (sp : List (Int × Int)) (n m k sn c r : Nat) (hc : c <= 4096) (hr : r <= 4096) (hz : s.size <= 281474976710656) (hC : C <= 9223372036854775807) (w : World) (hM : RdG KM w ao n M) (hn : n <= 6) (hH : RdG KS w co m H) (hK : RdG KQ w xo k K) (hS : RdG KT w po sn sp) (hk : ∀ i, i < k -> 0 <= (pk K i).sp /\ (pk K i).sp < (sn : Int) /\ 1 <= (pk K i).kd /\ (pk K i).kd <= 3) :
  Calls Tryz.prog 21 #[.agg #[.int .i64 p, .int .u64 q, .int .i64 C, .int .i64 R, .string s, .slice lo ln lc], .agg (wdcs fr nx (.slice ao n ac) (.slice bo bn bc) (.slice co m cc) (.slice xo k xc)), .slice po sn pc, .int .i64 (c : Int), .int .i64 (r : Int)] w fun e w' => e = .returned (.string (sgS (solB C R s (c : Int) (r : Int)) (mvP M c r) (shP H c r) (pkP K sp c r) (fun i => (pk K i).kd) n m k)) /\ Still w w' := by
 have A0 := Still.alloc w (.cells #[.int .i64 p, .int .u64 q, .int .i64 C, .int .i64 R, .string s, .slice lo ln lc] 27)
 have A1 := Still.alloc (w.alloc (.cells #[.int .i64 p, .int .u64 q, .int .i64 C, .int .i64 R, .string s, .slice lo ln lc] 27)) (.cells (wdcs fr nx (.slice ao n ac) (.slice bo bn bc) (.slice co m cc) (.slice xo k xc)) 33)
 have b0 := newWd_wb (w.alloc (.cells #[.int .i64 p, .int .u64 q, .int .i64 C, .int .i64 R, .string s, .slice lo ln lc] 27)) fr nx (.slice ao n ac) (.slice bo bn bc) (.slice co m cc) (.slice xo k xc)
 rw [size_alloc] at b0
 have a0 := newCf_cb w ⟨p, q, C, R, s, .slice lo ln lc⟩
 have HS0 : Hid (Still w ((w.alloc (.cells #[.int .i64 p, .int .u64 q, .int .i64 C, .int .i64 R, .string s, .slice lo ln lc] 27)).alloc (.cells (wdcs fr nx (.slice ao n ac) (.slice bo bn bc) (.slice co m cc) (.slice xo k xc)) 33))) := hid (A0.trans A1)
 have HP0 : Hid (Cfb ((w.alloc (.cells #[.int .i64 p, .int .u64 q, .int .i64 C, .int .i64 R, .string s, .slice lo ln lc] 27)).alloc (.cells (wdcs fr nx (.slice ao n ac) (.slice bo bn bc) (.slice co m cc) (.slice xo k xc)) 33)) w.heap.size ⟨p, q, C, R, s, .slice lo ln lc⟩) := hid (a0.still A1)
 have HQ0 : Hid (Wdb ((w.alloc (.cells #[.int .i64 p, .int .u64 q, .int .i64 C, .int .i64 R, .string s, .slice lo ln lc] 27)).alloc (.cells (wdcs fr nx (.slice ao n ac) (.slice bo bn bc) (.slice co m cc) (.slice xo k xc)) 33)) (w.heap.size + 1) fr nx (.slice ao n ac) (.slice bo bn bc) (.slice co m cc) (.slice xo k xc)) := hid b0
 obtain ⟨W0, eW0⟩ : ∃ X, ((w.alloc (.cells #[.int .i64 p, .int .u64 q, .int .i64 C, .int .i64 R, .string s, .slice lo ln lc] 27)).alloc (.cells (wdcs fr nx (.slice ao n ac) (.slice bo bn bc) (.slice co m cc) (.slice xo k xc)) 33)) = X := ⟨_, rfl⟩
 rw [eW0] at HS0 HP0 HQ0
 obtain ⟨c0, c1, c2, c3, c4, c5, cf⟩ := HP0.out.cells
 dsimp only at c0 c1 c2 c3 c4 c5
 clear A0 A1 b0 a0
 have HM := hid hM
 have HH := hid hH
 have HK := hid hK
 have HSp := hid hS
 have HKd := hid hk
 have hm47 : m <= 281474976710656 := hH.2.1
 have hk47 : k <= 281474976710656 := hK.2.1
 have hs47 : sn <= 281474976710656 := hS.2.1
 have HIv := hid (fun x y u => riv_any x y c r hc hr u)
 obtain ⟨b, eb⟩ : ∃ b, solB C R s (c : Int) (r : Int) = b := ⟨_, rfl⟩
 have HSo := hid (rsolid_is C R (c : Int) (r : Int) s hz hC eb W0)
 rw [eb]
 clear eb hM hH hK hS hk hc hr hz hC
 cases b with
 | true =>
  go_enter Tryz.func21, Tryz.ntmps21
  go_wp2_with fail
  (try rw [eW0])
  clear eW0
  refine HSo.out.mono ?_
  rintro e w1 ⟨rfl, h1⟩
  have HS1 := hid (HS0.out.trans h1)
  clear h1 c0 c1 c2 c3 c4 c5 cf
  go_wp2_with fail
  go_ret
  exact ⟨rfl, HS1.out⟩
 | false =>
  obtain ⟨T, eT⟩ : ∃ T, sgS false (mvP M c r) (shP H c r) (pkP K sp c r) (fun i => (pk K i).kd) n m k = T := ⟨_, rfl⟩
  have HT := hid eT
  rw [eT]
  clear eT
  go_enter Tryz.func21, Tryz.ntmps21
  go_wp2_with fail
  (try rw [eW0])
  clear eW0
  refine HSo.out.mono ?_
  rintro e w1 ⟨rfl, h1⟩
  have HS1 := hid (HS0.out.trans h1)
  have HQ1 := hid (HQ0.out.still h1)
  clear h1 c0 c1 c2 c3 c4 c5 cf HSo HP0 HQ0 HS0
  go_wp2_with fail
  go_loopw [11] (fun u wr => ∃ i : Nat, i <= n /\ u = .int .i64 (i : Int) /\ Hid (fstB (mvP M c r) i = none) /\ Still w1 wr) (fun u _ => n - (intOf u).toNat)
  case atStart => exact ⟨0, by omega, rfl, hid rfl, Fr.refl _ _⟩
  case round =>
   obtain ⟨i, hi, rfl, HF, hs⟩ := hrel
   have HS := hid hs
   obtain ⟨d0, d1, d2, d3, d4, d5, df⟩ := (HQ1.out.still hs).cells
   by_cases hin : i < n
   ·have hlt : (i : Int) < (n : Int) := by omega
    have hr1 := HM.out.still (HS1.out.trans hs)
    obtain ⟨B, o, rfl⟩ := hr1.at (by omega)
    obtain ⟨m0, m1, m2, m3, m4, m5, m6, m7, m8, m9, m10, m11, m12⟩ := rdM hr1 hin
    have HNo := hid (fun h => fst_no (P := mvP M c r) (i := i) HF.out h)
    have HYs := hid (fun h => fst_yes (P := mvP M c r) (i := i) HF.out h n hin)
    have HD : Hid (mvP M c r i = (decide ((mm M i).ou = 0) && ivB (mm M i).ax (mm M i).ay c r)) := hid rfl
    obtain ⟨a, ea⟩ : ∃ x, mm M i = x := ⟨_, rfl⟩
    rw [ea] at m0 m1 m2 m3 m4 m5 m6 m7 m8 m9 m10 m11 m12 HD
    clear ea hr1 hs
    by_cases ho : a.ou = 0
    ·have HI := hid (HIv.out a.ax a.ay wr)
     obtain ⟨t, et⟩ : ∃ t, ivB a.ax a.ay c r = t := ⟨_, rfl⟩
     rw [et] at HI HD
     clear et
     rw [ho] at m11
     have HD1 : Hid (mvP M c r i = t) := hid (by rw [HD.out, ho]; simp)
     clear HD ho
     cases t with
     | true =>
      go_wp2_with fail
      refine HI.out.mono ?_
      rintro e w2 ⟨rfl, h2⟩
      have HS2 := hid (HS1.out.trans (HS.out.trans h2))
      have HL := hid (rletter_any (i : Int) (seatB_iff.2 ⟨by omega, by omega⟩) w2)
      rw [Int.toNat_natCast] at HL
      have HE := hid (HT.out.symm.trans (sg_1 (HYs.out HD1.out)))
      clear h2 m0 m1 m2 m3 m4 m5 m6 m7 m8 m9 m10 m11 m12 d0 d1 d2 d3 d4 d5 df
      go_wp2_with fail
      refine HL.out.mono ?_
      rintro e w3 ⟨rfl, h3⟩
      have HS3 := hid (HS2.out.trans h3)
      clear h3
      go_wp2_with fail
      (first | rw [Exit.noGoto_ret] | skip)
      go_ret
      exact ⟨by rw [HE.out]; try rfl, HS3.out⟩
     | false =>
      go_wp2_with fail
      refine HI.out.mono ?_
      rintro e w2 ⟨rfl, h2⟩
      have HS2 := hid (HS.out.trans h2)
      have HF2 := hid (HNo.out HD1.out)
      clear h2 m0 m1 m2 m3 m4 m5 m6 m7 m8 m9 m10 m11 m12 d0 d1 d2 d3 d4 d5 df
      go_wp2_with fail
      go_roundw
      case rel => exact ⟨i + 1, by omega, by go_num, HF2, HS2.out⟩
      case measure => first | (simp [intOf]; done) | (simp [intOf]; omega)
    ·have HF2 := hid (HNo.out (by rw [HD.out]; simp [ho]))
     clear HD
     go_wp2_with fail
     go_roundw
     case rel => exact ⟨i + 1, by omega, by go_num, HF2, HS.out⟩
     case measure => first | (simp [intOf]; done) | (simp [intOf]; omega)
   ·have hge : ¬ (i : Int) < (n : Int) := by omega
    obtain rfl : i = n := by omega
    clear hs hin
    go_wp2_with fail
    go_loopw [12] (fun u wr2 => ∃ j : Nat, j <= m /\ u = .int .i64 (j : Int) /\ Hid (fstB (shP H c r) j = none) /\ Still w1 wr2) (fun u _ => m - (intOf u).toNat)
    case atStart => exact ⟨0, by omega, rfl, hid rfl, HS.out⟩
    case round =>
     clear HS d0 d1 d2 d3 d4 d5 df
     obtain ⟨j, hj, rfl, HG, hs⟩ := hrel
     have HS := hid hs
     obtain ⟨d0, d1, d2, d3, d4, d5, df⟩ := (HQ1.out.still hs).cells
     by_cases hjn : j < m
     ·have hlt : (j : Int) < (m : Int) := by omega
      have hr1 := HH.out.still (HS1.out.trans hs)
      obtain ⟨B, o, rfl⟩ := hr1.at (by omega)
      obtain ⟨m0, m1, m2, m3, m4, m5, m6, m7⟩ := rdS hr1 hjn
      have HNo := hid (fun h => fst_no (P := shP H c r) (i := j) HG.out h)
      have HYs := hid (fun h => fst_yes (P := shP H c r) (i := j) HG.out h m hjn)
      have HD : Hid (shP H c r j = ivB (ss H j).ax (ss H j).ay c r) := hid rfl
      obtain ⟨a, ea⟩ : ∃ x, ss H j = x := ⟨_, rfl⟩
      rw [ea] at m0 m1 m2 m3 m4 m5 m6 m7 HD
      clear ea hr1 hs
      have HI := hid (fun u => HIv.out a.ax a.ay u)
      obtain ⟨t, et⟩ : ∃ t, ivB a.ax a.ay c r = t := ⟨_, rfl⟩
      rw [et] at HI HD
      clear et
      cases t with
      | true =>
       go_wp2_with fail
       refine (HI.out _).mono ?_
       rintro e w2 ⟨rfl, h2⟩
       have HS2 := hid (HS1.out.trans (HS.out.trans h2))
       have HE := hid (HT.out.symm.trans (sg_2 HF.out (HYs.out HD.out)))
       clear h2 m0 m1 m2 m3 m4 m5 m6 m7 d0 d1 d2 d3 d4 d5 df
       go_wp2_with fail
       (first | rw [Exit.noGoto_ret] | skip)
       go_ret
       exact ⟨by rw [HE.out]; try rfl, HS2.out⟩
      | false =>
       go_wp2_with fail
       refine (HI.out _).mono ?_
       rintro e w2 ⟨rfl, h2⟩
       have HS2 := hid (HS.out.trans h2)
       have HF2 := hid (HNo.out HD.out)
       clear h2 m0 m1 m2 m3 m4 m5 m6 m7 d0 d1 d2 d3 d4 d5 df
       go_wp2_with fail
       go_roundw
       case rel => exact ⟨j + 1, by omega, by go_num, HF2, HS2.out⟩
       case measure => first | (simp [intOf]; done) | (simp [intOf]; omega)
     ·have hge : ¬ (j : Int) < (m : Int) := by omega
      obtain rfl : j = m := by omega
      clear hs hjn
      go_wp2_with fail
      go_loopw [13] (fun u wr3 => ∃ l : Nat, l <= k /\ u = .int .i64 (l : Int) /\ Hid (fstB (pkP K sp c r) l = none) /\ Still w1 wr3) (fun u _ => k - (intOf u).toNat)
      case atStart => exact ⟨0, by omega, rfl, hid rfl, HS.out⟩
      case round =>
       clear HS d0 d1 d2 d3 d4 d5 df
       obtain ⟨l, hl, rfl, HJ, hs⟩ := hrel
       have HS := hid hs
       obtain ⟨d0, d1, d2, d3, d4, d5, df⟩ := (HQ1.out.still hs).cells
       by_cases hln : l < k
       ·have hlt : (l : Int) < (k : Int) := by omega
        have hr1 := HK.out.still (HS1.out.trans hs)
        obtain ⟨B, o, rfl⟩ := hr1.at (by omega)
        have HNo := hid (fun h => fst_no (P := pkP K sp c r) (i := l) HJ.out h)
        have HYs := hid (fun h => fst_yes (P := pkP K sp c r) (i := l) HJ.out h k hln)
        have HD : Hid (pkP K sp c r l = ivB (pp sp (pk K l).sp.toNat).1 (pp sp (pk K l).sp.toNat).2 c r) := hid rfl
        have hkd := HKd.out l hln
        obtain ⟨m0, m1, m2⟩ := rdQ hr1 hln
        obtain ⟨a, ea⟩ : ∃ x, pk K l = x := ⟨_, rfl⟩
        have HEa := hid ea
        rw [ea] at m0 m1 m2 HD hkd
        obtain ⟨no, sq, kd⟩ := a
        dsimp only at m0 m1 m2 HD hkd
        obtain ⟨h1, h2, h3, h4⟩ := hkd
        obtain ⟨y, rfl⟩ : ∃ y : Nat, sq = (y : Int) := ⟨sq.toNat, by omega⟩
        rw [Int.toNat_natCast] at HD
        have hy : y < sn := by omega
        have A := Still.alloc wr (.cells #[.int .i64 no, .int .i64 (y : Int), .int .i64 kd] 124)
        have hb : Pkv (wr.alloc (.cells #[.int .i64 no, .int .i64 (y : Int), .int .i64 kd] 124)) wr.heap.size no (y : Int) kd := heap_alloc_new wr _
        have hr2 := HSp.out.still ((HS1.out.trans hs).trans A)
        obtain ⟨B2, o2, rfl⟩ := hr2.at (by omega)
        obtain ⟨s0, s1⟩ := rdP hr2 hy
        obtain ⟨b0, b1, b2, bf⟩ := hb.cells
        have HB := hid hb
        have HA := hid A
        obtain ⟨z, ez⟩ : ∃ z, pp sp y = z := ⟨_, rfl⟩
        rw [ez] at s0 s1 HD
        obtain ⟨z1, z2⟩ := z
        dsimp only at s0 s1 HD
        clear ea hr1 hr2 hs hb A ez
        have HI := hid (fun u => HIv.out z1 z2 u)
        obtain ⟨t, et⟩ : ∃ t, ivB z1 z2 c r = t := ⟨_, rfl⟩
        rw [et] at HI HD
        clear et
        cases t with
        | true =>
         go_wp2_with fail
         refine (HI.out _).mono ?_
         rintro e w2 ⟨rfl, h2'⟩
         have HS2 := hid (HS1.out.trans (HS.out.trans (HA.out.trans h2')))
         have HE := hid (HT.out.symm.trans (sg_3 HF.out HG.out (HYs.out HD.out)))
         rw [HEa.out] at HE
         obtain ⟨b0, b1, b2, bf⟩ := (HB.out.still h2').cells
         clear h2' m0 m1 m2 s0 s1 d0 d1 d2 d3 d4 d5 df HI HB HA HD HNo HYs HEa
         rcases (show kd = 1 \/ kd = 2 \/ kd = 3 by omega) with rfl | rfl | rfl
         ·clear h3 h4
          go_wp2_with fail
          (first | rw [Exit.noGoto_ret] | skip)
          go_ret
          exact ⟨by rw [HE.out]; try rfl, HS2.out⟩
         ·clear h3 h4
          go_wp2_with fail
          (first | rw [Exit.noGoto_ret] | skip)
          go_ret
          exact ⟨by rw [HE.out]; try rfl, HS2.out⟩
         ·clear h3 h4
          go_wp2_with fail
          (first | rw [Exit.noGoto_ret] | skip)
          go_ret
          exact ⟨by rw [HE.out]; try rfl, HS2.out⟩
        | false =>
         go_wp2_with fail
         refine (HI.out _).mono ?_
         rintro e w2 ⟨rfl, h2'⟩
         have HS2 := hid (HS.out.trans (HA.out.trans h2'))
         have HF2 := hid (HNo.out HD.out)
         clear h2' m0 m1 m2 s0 s1 b0 b1 b2 bf d0 d1 d2 d3 d4 d5 df HI HB HA HD HNo HYs HEa
         go_wp2_with fail
         go_roundw
         case rel => exact ⟨l + 1, by omega, by go_num, HF2, HS2.out⟩
         case measure => first | (simp [intOf]; done) | (simp [intOf]; omega)
       ·have hge : ¬ (l : Int) < (k : Int) := by omega
        obtain rfl : l = k := by omega
        have HE := hid (HT.out.symm.trans (sg_4 HF.out HG.out HJ.out))
        have HS9 := hid (HS1.out.trans hs)
        clear hs hln
        go_wp2_with fail
        go_ret
        exact ⟨by rw [HE.out]; try rfl, HS9.out⟩
end Go.Proofs.YthcjckgmdokmdaaGreatDoor
namespace Go.Proofs.YthcjckgmdokmdaaGreatDoor
open Go.RowKit
open Pu Gp Np Za Ka Ja Ea Ha
set_option maxRecDepth 100000
theorem formV_any (n : Int) (h : I64 n) (w : World) (ht : PTabV w) : Calls Tryz.prog 15 #[.int .i64 n, .int .i64 10] w fun e w' => e = .returned (.string (itS n)) /\ Still w w' := by
 refine (Tryz.strconv_FormatInt_10 n h.1 h.2 w ht).mono ?_
 rintro e w' ⟨rfl, k, os, rfl⟩
 exact ⟨rfl, still_of_belowV (Lib.below_grow _ _ (Nat.le_refl _) _ _)⟩
theorem cat_sq {a b : ByteArray} {m n : Nat} (ha : a.size <= m) (hb : b.size <= n) : (a ++ b).size <= m + n := by
 rw [ByteArray.size_append]
 omega
theorem sgS_sz (b : Bool) (P Q R : Nat -> Bool) (kd : Nat -> Int) (n m k : Nat) : (sgS b P Q R kd n m k).size <= 1 := by
 unfold sgS
 split
 ·exact Nat.le_refl 1
 ·split
  ·exact Nat.le_refl 1
  ·split
   ·exact Nat.le_refl 1
   ·split
    ·unfold pkS
     split
     ·exact Nat.le_refl 1
     ·split <;> exact Nat.le_refl 1
    ·exact Nat.le_refl 1
def rwS (g : Nat -> Nat -> ByteArray) (s : ByteArray) (r : Nat) : Nat -> ByteArray
 | 0 => s
 | c + 1 => rwS g s r c ++ g c r
def mpS (g : Nat -> Nat -> ByteArray) (C : Nat) (s : ByteArray) : Nat -> ByteArray
 | 0 => s
 | r + 1 => rwS g (mpS g C s r) r C ++ ⟨#[10]⟩
theorem rwS_sz {g : Nat -> Nat -> ByteArray} (hg : ∀ c r, (g c r).size <= 1) {s : ByteArray} {m : Nat} (h : s.size <= m) (r : Nat) : ∀ c, (rwS g s r c).size <= m + c
 | 0 => h
 | c + 1 => Nat.le_trans (cat_sq (rwS_sz hg h r c) (hg c r)) (by omega)
theorem mpS_sz {g : Nat -> Nat -> ByteArray} (hg : ∀ c r, (g c r).size <= 1) {C : Nat} (hC : C <= 32) {s : ByteArray} (h : s.size <= 28) : ∀ r, (mpS g C s r).size <= 28 + 33 * r
 | 0 => h
 | r + 1 => Nat.le_trans (cat_sq (rwS_sz hg (mpS_sz hg hC h r) r C) (show (⟨#[10]⟩ : ByteArray).size <= 1 by decide)) (by omega)
def l1S (s : ByteArray) (i : Nat) (m : Mv) : ByteArray := ((((((s ++ ltS i) ++ ⟨#[32, 97, 116, 32]⟩) ++ itS m.ax) ++ ⟨#[44]⟩) ++ itS m.ay) ++ ⟨#[32, 104, 101, 97, 108, 116, 104, 32]⟩) ++ itS m.hl
def l2S (s : ByteArray) (m : Mv) (x : Scr) : ByteArray := (((s ++ ⟨#[32, 101, 110, 101, 114, 103, 121, 32]⟩) ++ itS m.en) ++ ⟨#[32, 112, 111, 105, 110, 116, 115, 32]⟩) ++ itS x.p
def l3S (s : ByteArray) (b : Bool) : ByteArray := if b then s ++ ⟨#[32, 115, 104, 105, 101, 108, 100]⟩ else s
def l4S (s : ByteArray) (o : Int) : ByteArray := if 0 < o then (s ++ ⟨#[32, 111, 117, 116, 32]⟩) ++ itS o else s
def lsS (M : List Mv) (C : List Scr) (s : ByteArray) : Nat -> ByteArray
 | 0 => s
 | i + 1 => l4S (l3S (l2S (l1S (lsS M C s i) i (mm M i)) (mm M i) (sc C i)) (mm M i).sh) (mm M i).ou ++ ⟨#[10]⟩
def Num6 (m : Mv) (x : Scr) : Prop := I64 m.ax /\ I64 m.ay /\ I64 m.hl /\ I64 m.en /\ I64 m.ou /\ I64 x.p
theorem l1S_sz {s : ByteArray} {b i : Nat} {m : Mv} {x : Scr} (h : s.size <= b) (hx : Num6 m x) : (l1S s i m).size <= b + 77 :=
 Nat.le_trans (cat_sq (cat_sq (cat_sq (cat_sq (cat_sq (cat_sq (cat_sq h (ltS_sz i)) (show (⟨#[32, 97, 116, 32]⟩ : ByteArray).size <= 4 by decide)) (itS_sz hx.1)) (show (⟨#[44]⟩ : ByteArray).size <= 1 by decide)) (itS_sz hx.2.1)) (show (⟨#[32, 104, 101, 97, 108, 116, 104, 32]⟩ : ByteArray).size <= 8 by decide)) (itS_sz hx.2.2.1)) (by omega)
theorem l2S_sz {s : ByteArray} {b : Nat} {m : Mv} {x : Scr} (h : s.size <= b) (hx : Num6 m x) : (l2S s m x).size <= b + 58 :=
 Nat.le_trans (cat_sq (cat_sq (cat_sq (cat_sq h (show (⟨#[32, 101, 110, 101, 114, 103, 121, 32]⟩ : ByteArray).size <= 8 by decide)) (itS_sz hx.2.2.2.1)) (show (⟨#[32, 112, 111, 105, 110, 116, 115, 32]⟩ : ByteArray).size <= 8 by decide)) (itS_sz hx.2.2.2.2.2)) (by omega)
theorem l3S_sz {s : ByteArray} {b : Nat} {t : Bool} (h : s.size <= b) : (l3S s t).size <= b + 7 := by
 unfold l3S
 split
 ·exact cat_sq h (show (⟨#[32, 115, 104, 105, 101, 108, 100]⟩ : ByteArray).size <= 7 by decide)
 ·omega
theorem l4S_sz {s : ByteArray} {b : Nat} {o : Int} (h : s.size <= b) (ho : I64 o) : (l4S s o).size <= b + 26 := by
 unfold l4S
 split
 ·exact Nat.le_trans (cat_sq (cat_sq h (show (⟨#[32, 111, 117, 116, 32]⟩ : ByteArray).size <= 5 by decide)) (itS_sz ho)) (by omega)
 ·omega
theorem lsS_sz {M : List Mv} {C : List Scr} {s : ByteArray} {b n : Nat} (h : s.size <= b) (hx : ∀ i, i < n -> Num6 (mm M i) (sc C i)) : ∀ i, i <= n -> (lsS M C s i).size <= b + 169 * i
 | 0, _ => h
 | i + 1, hi => Nat.le_trans (cat_sq (l4S_sz (l3S_sz (l2S_sz (l1S_sz (lsS_sz h hx i (by omega)) (hx i (by omega))) (hx i (by omega)))) (hx i (by omega)).2.2.2.2.1) (show (⟨#[10]⟩ : ByteArray).size <= 1 by decide)) (by omega)
def shwS (g : Nat -> Nat -> ByteArray) (fr : Int) (C R : Nat) (M : List Mv) (S : List Scr) (n : Nat) : ByteArray := lsS M S (mpS g C ((⟨#[102, 114, 97, 109, 101, 32]⟩ ++ itS fr) ++ ⟨#[10]⟩) R) n
set_option maxHeartbeats 8000000 in
theorem rshow_yes (p q : Int) (Cn Rn : Nat) (s : ByteArray) (fr nx : Int) (lo ao bo co xo : Option Addr) (ln lc ac bc cc xc : Nat) (M : List Mv) (S : List Scr) (H : List Sh) (K : List Pk) (sp : List (Int × Int)) (n m k : Nat) (hC : Cn <= 32) (hR : Rn <= 24) (hz : s.size <= 281474976710656) (w : World) (hM : RdG KM w ao n M) (hB : RdG KC w bo n S) (hn : n <= 6) (hH : RdG KS w co m H) (hK : RdG KQ w xo k K) (hsl : sp.length <= 281474976710656) (hk : ∀ i, i < k -> 0 <= (pk K i).sp /\ (pk K i).sp < (sp.length : Int) /\ 1 <= (pk K i).kd /\ (pk K i).kd <= 3) (hf : I64 fr) (hN : ∀ i, i < n -> Num6 (mm M i) (sc S i)) (ht : PTabV w)
  (hck : ∀ u, Still w u -> Calls Tryz.prog 19 #[.agg #[.int .i64 p, .int .u64 q, .int .i64 (Cn : Int), .int .i64 (Rn : Int), .string s, .slice lo ln lc], .agg (wdcs fr nx (.slice ao n ac) (.slice bo n bc) (.slice co m cc) (.slice xo k xc))] u fun e w' => e = .returned (.int .i64 0) /\ Still u w')
  (hsp : ∀ u, Calls Tryz.prog 20 #[ar (Cn : Int) (Rn : Int) s] u fun e w' => ∃ a, e = .returned a /\ OwG KT 54 w' u.heap.size a sp /\ Still u w')
  (g : Nat -> Nat -> ByteArray) (hg : ∀ c r, g c r = sgS (solB (Cn : Int) (Rn : Int) s (c : Int) (r : Int)) (mvP M c r) (shP H c r) (pkP K sp c r) (fun i => (pk K i).kd) n m k) :
  Calls Tryz.prog 7 #[.agg #[.int .i64 p, .int .u64 q, .int .i64 (Cn : Int), .int .i64 (Rn : Int), .string s, .slice lo ln lc], .agg (wdcs fr nx (.slice ao n ac) (.slice bo n bc) (.slice co m cc) (.slice xo k xc))] w fun e w' => e = .returned (.tuple #[.string (shwS g fr Cn Rn M S n), .int .i64 0]) /\ Still w w' := by
 have A0 := Still.alloc w (.cells #[.int .i64 p, .int .u64 q, .int .i64 (Cn : Int), .int .i64 (Rn : Int), .string s, .slice lo ln lc] 27)
 have A1 := Still.alloc (w.alloc (.cells #[.int .i64 p, .int .u64 q, .int .i64 (Cn : Int), .int .i64 (Rn : Int), .string s, .slice lo ln lc] 27)) (.cells (wdcs fr nx (.slice ao n ac) (.slice bo n bc) (.slice co m cc) (.slice xo k xc)) 33)
 have b0 := newWd_wb (w.alloc (.cells #[.int .i64 p, .int .u64 q, .int .i64 (Cn : Int), .int .i64 (Rn : Int), .string s, .slice lo ln lc] 27)) fr nx (.slice ao n ac) (.slice bo n bc) (.slice co m cc) (.slice xo k xc)
 rw [size_alloc] at b0
 have a0 := newCf_cb w ⟨p, q, (Cn : Int), (Rn : Int), s, .slice lo ln lc⟩
 have HS0 : Hid (Still w ((w.alloc (.cells #[.int .i64 p, .int .u64 q, .int .i64 (Cn : Int), .int .i64 (Rn : Int), .string s, .slice lo ln lc] 27)).alloc (.cells (wdcs fr nx (.slice ao n ac) (.slice bo n bc) (.slice co m cc) (.slice xo k xc)) 33))) := hid (A0.trans A1)
 have HP0 : Hid (Cfb ((w.alloc (.cells #[.int .i64 p, .int .u64 q, .int .i64 (Cn : Int), .int .i64 (Rn : Int), .string s, .slice lo ln lc] 27)).alloc (.cells (wdcs fr nx (.slice ao n ac) (.slice bo n bc) (.slice co m cc) (.slice xo k xc)) 33)) w.heap.size ⟨p, q, (Cn : Int), (Rn : Int), s, .slice lo ln lc⟩) := hid (a0.still A1)
 have HQ0 : Hid (Wdb ((w.alloc (.cells #[.int .i64 p, .int .u64 q, .int .i64 (Cn : Int), .int .i64 (Rn : Int), .string s, .slice lo ln lc] 27)).alloc (.cells (wdcs fr nx (.slice ao n ac) (.slice bo n bc) (.slice co m cc) (.slice xo k xc)) 33)) (w.heap.size + 1) fr nx (.slice ao n ac) (.slice bo n bc) (.slice co m cc) (.slice xo k xc)) := hid b0
 obtain ⟨W0, eW0⟩ : ∃ X, ((w.alloc (.cells #[.int .i64 p, .int .u64 q, .int .i64 (Cn : Int), .int .i64 (Rn : Int), .string s, .slice lo ln lc] 27)).alloc (.cells (wdcs fr nx (.slice ao n ac) (.slice bo n bc) (.slice co m cc) (.slice xo k xc)) 33)) = X := ⟨_, rfl⟩
 rw [eW0] at HS0 HP0 HQ0
 obtain ⟨c0, c1, c2, c3, c4, c5, cf⟩ := HP0.out.cells
 dsimp only at c0 c1 c2 c3 c4 c5
 obtain ⟨d0, d1, d2, d3, d4, d5, df⟩ := HQ0.out.cells
 have HCk := hid (hck W0 HS0.out)
 have HSp := hid hsp
 have HT := hid ht
 have HN := hid hN
 have HM := hid hM
 have HB := hid hB
 have hg1 : ∀ c r, (g c r).size <= 1 := fun c r => by rw [hg]; exact sgS_sz _ _ _ _ _ _ _ _
 have HG1 := hid hg1
 have HSg : Hid (∀ (so : Option Addr) (sc' c r : Nat) (u : World), Still w u -> RdG KT u so sp.length sp -> c <= 4096 -> r <= 4096 -> Calls Tryz.prog 21 #[.agg #[.int .i64 p, .int .u64 q, .int .i64 (Cn : Int), .int .i64 (Rn : Int), .string s, .slice lo ln lc], .agg (wdcs fr nx (.slice ao n ac) (.slice bo n bc) (.slice co m cc) (.slice xo k xc)), .slice so sp.length sc', .int .i64 (c : Int), .int .i64 (r : Int)] u fun e w' => e = .returned (.string (g c r)) /\ Still u w') := hid (fun so sc' c r u hu hs hc hr => by
  rw [hg]
  exact rsgn23_any p q (Cn : Int) (Rn : Int) s fr nx lo ao bo co xo so ln lc ac n bc cc xc sc' M H K sp n m k sp.length c r hc hr hz (by omega) u (hM.still hu) hn (hH.still hu) (hK.still hu) hs hk)
 have HFm := hid (fun u (hu : Still w u) => formV_any fr hf u (ht.still hu))
 have X1 := itS_sz hf
 obtain ⟨sn, esn⟩ : ∃ y, sp.length = y := ⟨_, rfl⟩
 rw [esn] at HSg
 have hs47 : sn <= 281474976710656 := by omega
 have HEs := hid esn
 have HW : Hid (shwS g fr Cn Rn M S n = lsS M S (mpS g Cn ((⟨#[102, 114, 97, 109, 101, 32]⟩ ++ itS fr) ++ ⟨#[10]⟩) Rn) n) := hid rfl
 obtain ⟨T, eT⟩ : ∃ y, shwS g fr Cn Rn M S n = y := ⟨_, rfl⟩
 rw [eT] at HW
 rw [eT]
 obtain ⟨x1, ex1⟩ : ∃ y, itS fr = y := ⟨_, rfl⟩
 rw [ex1] at HW HFm X1
 obtain ⟨y1, f1, z1, s1⟩ := cat_ex (a := ⟨#[102, 114, 97, 109, 101, 32]⟩) (b := x1) (m := 6) (n := 21) (by decide) X1 (by omega)
 obtain ⟨y2, f2, z2, s2⟩ := cat_ex (a := y1) (b := ⟨#[10]⟩) (m := 27) (n := 1) z1 (by decide) (by omega)
 rw [f1, f2] at HW
 have HZ2 := hid z2
 clear A0 A1 b0 a0 eT ex1 esn X1 f1 f2 z1 z2 hM hB hH hK hsl hk hf hN ht hck hsp hg hg1 hz
 go_enter Tryz.func7, Tryz.ntmps7
 go_wp2_with fail
 (try rw [eW0])
 clear eW0
 refine HCk.out.mono ?_
 rintro e w1 ⟨rfl, h1⟩
 have HS1 := hid (HS0.out.trans h1)
 have HP1 := hid (HP0.out.still h1)
 have HQ1 := hid (HQ0.out.still h1)
 clear h1 c0 c1 c2 c3 c4 c5 cf d0 d1 d2 d3 d4 d5 df HS0 HP0 HQ0 HCk
 obtain ⟨d0, d1, d2, d3, d4, d5, df⟩ := HQ1.out.cells
 go_wp2_with fail
 refine (HFm.out w1 HS1.out).mono ?_
 rintro e w2 ⟨rfl, h2⟩
 have HS2 := hid (HS1.out.trans h2)
 have HP2 := hid (HP1.out.still h2)
 have HQ2 := hid (HQ1.out.still h2)
 clear h2 d0 d1 d2 d3 d4 d5 df HS1 HP1 HQ1 HFm
 obtain ⟨c0, c1, c2, c3, c4, c5, cf⟩ := HP2.out.cells
 dsimp only at c0 c1 c2 c3 c4 c5
 go_wp2_with fail
 refine (HSp.out w2).mono ?_
 rintro e w3 ⟨vs, rfl, ho, h3⟩
 obtain ⟨so, sc', rfl, _⟩ := ho.slice
 rw [HEs.out]
 have HRs : Hid (RdG KT w3 so sn sp) := hid (by have h := OwG.rd (M := []) (by simpa using ho) (by rw [HEs.out]; exact hs47); rw [HEs.out] at h; exact h)
 have HS3 := hid (HS2.out.trans h3)
 have HP3 := hid (HP2.out.still h3)
 have HQ3 := hid (HQ2.out.still h3)
 clear h3 ho c0 c1 c2 c3 c4 c5 cf HS2 HP2 HQ2 HSp s1 s2
 go_wp2_with fail
 go_loopw [7, 9] (fun t u wr => ∃ r : Nat, r <= Rn /\ u = .int .i64 (r : Int) /\ t = .string (mpS g Cn y2 r) /\ Still w3 wr) (fun _ u _ => Rn - (intOf u).toNat)
 case atStart => exact ⟨0, by omega, rfl, rfl, Fr.refl _ _⟩
 case round =>
  obtain ⟨r, hr, rfl, rfl, hs⟩ := hrel
  have HS := hid hs
  obtain ⟨c0, c1, c2, c3, c4, c5, cf⟩ := (HP3.out.still hs).cells
  dsimp only at c0 c1 c2 c3 c4 c5
  have S0 := mpS_sz HG1.out hC HZ2.out r
  by_cases hin : r < Rn
  ·have hlt : (r : Int) < (Rn : Int) := by omega
   have HStp : Hid (mpS g Cn y2 (r + 1) = rwS g (mpS g Cn y2 r) r Cn ++ ⟨#[10]⟩) := hid rfl
   obtain ⟨t0, et0⟩ : ∃ y, mpS g Cn y2 r = y := ⟨_, rfl⟩
   rw [et0] at S0 HStp
   rw [et0]
   have HS0 := hid S0
   clear hs et0 S0
   go_wp2_with fail
   go_loopw [7, 10] (fun t u wr2 => ∃ c : Nat, c <= Cn /\ u = .int .i64 (c : Int) /\ t = .string (rwS g t0 r c) /\ Still w3 wr2) (fun _ u _ => Cn - (intOf u).toNat)
   case atStart => exact ⟨0, by omega, rfl, rfl, HS.out⟩
   case round =>
    clear HS c0 c1 c2 c3 c4 c5 cf
    obtain ⟨c, hc, rfl, rfl, hs⟩ := hrel
    have HS := hid hs
    obtain ⟨c0, c1, c2, c3, c4, c5, cf⟩ := (HP3.out.still hs).cells
    dsimp only at c0 c1 c2 c3 c4 c5
    obtain ⟨d0, d1, d2, d3, d4, d5, df⟩ := (HQ3.out.still hs).cells
    have S1 := rwS_sz HG1.out HS0.out r c
    by_cases hcn : c < Cn
    ·have hlt2 : (c : Int) < (Cn : Int) := by omega
     have HSi := hid (HSg.out so sc' c r wr (HS3.out.trans hs) (HRs.out.still hs) (by omega) (by omega))
     have S2 := HG1.out c r
     have HSt : Hid (rwS g t0 r (c + 1) = rwS g t0 r c ++ g c r) := hid rfl
     obtain ⟨t1, et1⟩ : ∃ y, rwS g t0 r c = y := ⟨_, rfl⟩
     obtain ⟨t2, et2⟩ : ∃ y, g c r = y := ⟨_, rfl⟩
     rw [et1] at S1 HSt
     rw [et2] at S2 HSt HSi
     rw [et1]
     obtain ⟨v1, f1, z1, s1⟩ := cat_ex (a := t1) (b := t2) (m := 28 + 33 * r + c) (n := 1) S1 S2 (by omega)
     rw [f1] at HSt
     clear hs et1 et2 f1 z1 S1 S2
     go_wp2_with fail
     refine HSi.out.mono ?_
     rintro e w4 ⟨rfl, h4⟩
     have HS4 := hid (HS.out.trans h4)
     clear h4 c0 c1 c2 c3 c4 c5 cf d0 d1 d2 d3 d4 d5 df HSi
     go_wp2_with fail
     go_roundw
     case rel => exact ⟨c + 1, by omega, by go_num, by rw [HSt.out], HS4.out⟩
     case measure => first | (simp [intOf]; done) | (simp [intOf]; omega)
    ·have hge2 : ¬ (c : Int) < (Cn : Int) := by omega
     obtain rfl : c = Cn := by omega
     obtain ⟨t1, et1⟩ : ∃ y, rwS g t0 r c = y := ⟨_, rfl⟩
     rw [et1] at S1 HStp
     rw [et1]
     obtain ⟨v1, f1, z1, s1⟩ := cat_ex (a := t1) (b := ⟨#[10]⟩) (m := 28 + 33 * r + c) (n := 1) S1 (by decide) (by omega)
     rw [f1] at HStp
     clear hs hcn et1 f1 z1 S1 d0 d1 d2 d3 d4 d5 df
     go_wp2_with fail
     go_roundw
     case rel => exact ⟨r + 1, by omega, by go_num, by rw [HStp.out], HS.out⟩
     case measure => first | (simp [intOf]; done) | (simp [intOf]; omega)
  ·have hge : ¬ (r : Int) < (Rn : Int) := by omega
   obtain rfl : r = Rn := by omega
   obtain ⟨t0, et0⟩ : ∃ y, mpS g Cn y2 r = y := ⟨_, rfl⟩
   rw [et0] at S0 HW
   rw [et0]
   have HS5 := hid S0
   clear hs hin et0 S0
   go_wp2_with fail
   clear c0 c1 c2 c3 c4 c5 cf
   go_loopw [7, 11] (fun t u wr3 => ∃ i : Nat, i <= n /\ u = .int .i64 (i : Int) /\ t = .string (lsS M S t0 i) /\ Still w3 wr3) (fun _ u _ => n - (intOf u).toNat)
   case atStart => exact ⟨0, by omega, rfl, rfl, HS.out⟩
   case round =>
    clear HS
    obtain ⟨i, hi, rfl, rfl, hs⟩ := hrel
    have HS := hid hs
    obtain ⟨d0, d1, d2, d3, d4, d5, df⟩ := (HQ3.out.still hs).cells
    have S0 := lsS_sz (M := M) (C := S) HS5.out HN.out i hi
    by_cases hin : i < n
    ·have hlt : (i : Int) < (n : Int) := by omega
     have hr1 := HM.out.still (HS3.out.trans hs)
     obtain ⟨B, o, rfl⟩ := hr1.at (by omega)
     have hr2 := HB.out.still (HS3.out.trans hs)
     obtain ⟨B2, o2, rfl⟩ := hr2.at (by omega)
     obtain ⟨m0, m1, m2, m3, m4, m5, m6, m7, m8, m9, m10, m11, m12⟩ := rdM hr1 hin
     have HSt : Hid (lsS M S t0 (i + 1) = l4S (l3S (l2S (l1S (lsS M S t0 i) i (mm M i)) (mm M i) (sc S i)) (mm M i).sh) (mm M i).ou ++ ⟨#[10]⟩) := hid rfl
     have hx := HN.out i hin
     have HRC := hid (fun u (hu : Still wr u) => rdC (hr2.still hu) hin)
     obtain ⟨a, ea⟩ : ∃ x, mm M i = x := ⟨_, rfl⟩
     rw [ea] at m0 m1 m2 m3 m4 m5 m6 m7 m8 m9 m10 m11 m12 HSt hx
     obtain ⟨b, eb⟩ : ∃ x, sc S i = x := ⟨_, rfl⟩
     rw [eb] at HRC HSt hx
     obtain ⟨t, et⟩ : ∃ y, lsS M S t0 i = y := ⟨_, rfl⟩
     rw [et] at S0 HSt
     rw [et]
     obtain ⟨hI1, hI2, hI3, hI4, hI5, hI6⟩ := hx
     have H0 := hid (fun u => rletter_any (i : Int) (seatB_iff.2 ⟨by omega, by omega⟩) u)
     rw [Int.toNat_natCast] at H0
     have H1 := hid (fun u (hu : Still w u) => itoaV_any _ hI1 u (HT.out.still hu))
     have H2 := hid (fun u (hu : Still w u) => itoaV_any _ hI2 u (HT.out.still hu))
     have H3 := hid (fun u (hu : Still w u) => itoaV_any _ hI3 u (HT.out.still hu))
     have H4 := hid (fun u (hu : Still w u) => itoaV_any _ hI4 u (HT.out.still hu))
     have H5 := hid (fun u (hu : Still w u) => itoaV_any _ hI5 u (HT.out.still hu))
     have H6 := hid (fun u (hu : Still w u) => itoaV_any _ hI6 u (HT.out.still hu))
     have X0 := ltS_sz i
     have X1 := itS_sz hI1
     have X2 := itS_sz hI2
     have X3 := itS_sz hI3
     have X4 := itS_sz hI4
     have X5 := itS_sz hI5
     have X6 := itS_sz hI6
     have HL1 : Hid (l1S t i a = ((((((t ++ ltS i) ++ ⟨#[32, 97, 116, 32]⟩) ++ itS a.ax) ++ ⟨#[44]⟩) ++ itS a.ay) ++ ⟨#[32, 104, 101, 97, 108, 116, 104, 32]⟩) ++ itS a.hl) := hid rfl
     have HL2 : Hid (∀ y, l2S y a b = (((y ++ ⟨#[32, 101, 110, 101, 114, 103, 121, 32]⟩) ++ itS a.en) ++ ⟨#[32, 112, 111, 105, 110, 116, 115, 32]⟩) ++ itS b.p) := hid (fun _ => rfl)
     have HL4 : Hid (∀ y, 0 < a.ou -> l4S y a.ou = (y ++ ⟨#[32, 111, 117, 116, 32]⟩) ++ itS a.ou) := hid (fun y h => by unfold l4S; rw [if_pos h])
     have HL4n : Hid (∀ y, ¬ 0 < a.ou -> l4S y a.ou = y) := hid (fun y h => by unfold l4S; rw [if_neg h])
     obtain ⟨x0, ex0⟩ : ∃ y, ltS i = y := ⟨_, rfl⟩
     obtain ⟨x1, ex1⟩ : ∃ y, itS a.ax = y := ⟨_, rfl⟩
     obtain ⟨x2, ex2⟩ : ∃ y, itS a.ay = y := ⟨_, rfl⟩
     obtain ⟨x3, ex3⟩ : ∃ y, itS a.hl = y := ⟨_, rfl⟩
     obtain ⟨x4, ex4⟩ : ∃ y, itS a.en = y := ⟨_, rfl⟩
     obtain ⟨x5, ex5⟩ : ∃ y, itS a.ou = y := ⟨_, rfl⟩
     obtain ⟨x6, ex6⟩ : ∃ y, itS b.p = y := ⟨_, rfl⟩
     rw [ex0] at H0 X0 HL1
     rw [ex1] at H1 X1 HL1
     rw [ex2] at H2 X2 HL1
     rw [ex3] at H3 X3 HL1
     rw [ex4] at H4 X4 HL2
     rw [ex5] at H5 X5 HL4
     rw [ex6] at H6 X6 HL2
     obtain ⟨v1, f1, z1, s1⟩ := cat_ex (a := t) (b := x0) (m := 28 + 33 * r + 169 * i) (n := 1) S0 X0 (by omega)
     obtain ⟨v2, f2, z2, s2⟩ := cat_ex (a := v1) (b := ⟨#[32, 97, 116, 32]⟩) (m := 28 + 33 * r + 169 * i + 1) (n := 4) z1 (by decide) (by omega)
     obtain ⟨v3, f3, z3, s3⟩ := cat_ex (a := v2) (b := x1) (m := 28 + 33 * r + 169 * i + 5) (n := 21) z2 X1 (by omega)
     obtain ⟨v4, f4, z4, s4⟩ := cat_ex (a := v3) (b := ⟨#[44]⟩) (m := 28 + 33 * r + 169 * i + 26) (n := 1) z3 (by decide) (by omega)
     obtain ⟨v5, f5, z5, s5⟩ := cat_ex (a := v4) (b := x2) (m := 28 + 33 * r + 169 * i + 27) (n := 21) z4 X2 (by omega)
     obtain ⟨v6, f6, z6, s6⟩ := cat_ex (a := v5) (b := ⟨#[32, 104, 101, 97, 108, 116, 104, 32]⟩) (m := 28 + 33 * r + 169 * i + 48) (n := 8) z5 (by decide) (by omega)
     obtain ⟨v7, f7, z7, s7⟩ := cat_ex (a := v6) (b := x3) (m := 28 + 33 * r + 169 * i + 56) (n := 21) z6 X3 (by omega)
     obtain ⟨v8, f8, z8, s8⟩ := cat_ex (a := v7) (b := ⟨#[32, 101, 110, 101, 114, 103, 121, 32]⟩) (m := 28 + 33 * r + 169 * i + 77) (n := 8) z7 (by decide) (by omega)
     obtain ⟨v9, f9, z9, s9⟩ := cat_ex (a := v8) (b := x4) (m := 28 + 33 * r + 169 * i + 85) (n := 21) z8 X4 (by omega)
     obtain ⟨v10, f10, z10, s10⟩ := cat_ex (a := v9) (b := ⟨#[32, 112, 111, 105, 110, 116, 115, 32]⟩) (m := 28 + 33 * r + 169 * i + 106) (n := 8) z9 (by decide) (by omega)
     obtain ⟨v11, f11, z11, s11⟩ := cat_ex (a := v10) (b := x6) (m := 28 + 33 * r + 169 * i + 114) (n := 21) z10 X6 (by omega)
     rw [f1, f2, f3, f4, f5, f6, f7] at HL1
     have HLv : Hid (l2S v7 a b = v11) := hid (by rw [HL2.out, f8, f9, f10, f11])
     have HSu : Hid (lsS M S t0 (i + 1) = l4S (l3S v11 a.sh) a.ou ++ ⟨#[10]⟩) := hid (by rw [HSt.out, HL1.out, HLv.out])
     have A := Still.alloc wr (.cells (mcs a) 56)
     have hb : Mb (wr.alloc (.cells (mcs a) 56)) wr.heap.size a := heap_alloc_new wr _
     have HMb := hid hb
     have HSw := hid (hs.trans A)
     have HRC1 := hid (fun u (hu : Still (wr.alloc (.cells (mcs a) 56)) u) => HRC.out u (A.trans hu))
     obtain ⟨W3, eW3⟩ : ∃ X, wr.alloc (.cells (mcs a) 56) = X := ⟨_, rfl⟩
     rw [eW3] at HMb HSw HRC1
     have HQ4 := hid (HQ3.out.still HSw.out)
     have HZ := hid z11
     have HV : Hid (v11.size <= 28 + 33 * r + 169 * i + 135) := hid z11
     have HX5 := hid X5
     clear HL1 HL2 HLv HSt HRC A hb hs hr1 hr2 ea eb et hI1 hI2 hI3 hI4 hI5 hI6 S0 X0 X1 X2 X3 X4 X5 X6 ex0 ex1 ex2 ex3 ex4 ex5 ex6 f1 f2 f3 f4 f5 f6 f7 f8 f9 f10 f11 z1 z2 z3 z4 z5 z6 z7 z8 z9 z10 z11 HS
     go_upto_region 18 with fail
     clear eW3 m0 m1 m2 m3 m4 m5 m6 m7 m8 m9 m10 m11 m12 d0 d1 d2 d3 d4 d5 df
     obtain ⟨m0, m1, m2, m3, m4, m5, m6, m7, m8, m9, m10, m11, m12, mf⟩ := HMb.out.cells
     have k0 := Cl.cell m0
     have k1 := Cl.cell m1
     have k7 := Cl.cell m7
     have hne := Aft.here W3
     have G0 := hid (fun z : Aft W3 => H0.out z.u)
     have G1 := hid (fun z : Aft W3 => H1.out z.u (HS3.out.trans (HSw.out.trans z.s)))
     have G2 := hid (fun z : Aft W3 => H2.out z.u (HS3.out.trans (HSw.out.trans z.s)))
     have G3 := hid (fun z : Aft W3 => H3.out z.u (HS3.out.trans (HSw.out.trans z.s)))
     clear m0 m1 m2 m3 m4 m5 m6 m7 m8 m9 m10 m11 m12 mf
     refine region_all (by kernel_rfl) (by kernel_rfl) ?_
     repeat (go_big_quiet_step ((first | (go_at_call 22; with_reducible exact Calls.cl (G0.out _)) | (go_at_call 23; with_reducible exact Calls.cl (G1.out _)) | (go_at_call 23; with_reducible exact Calls.cl (G2.out _)) | (go_at_call 23; with_reducible exact Calls.cl (G3.out _)))))
     refine wpQuiet_nil ?_
     intro W4 h4
     have HW4 := hid (HSw.out.trans h4)
     have HM4 := hid (HMb.out.still h4)
     have HQ5 := hid (HQ4.out.still h4)
     have hc4 := HRC1.out W4 h4
     have HC4 := hid hc4
     clear h4 hne k0 k1 k7 G0 G1 G2 G3 HSw HMb HQ4 HRC1 H0 H1 H2 H3 hc4 s1 s2 s3 s4 s5 s6 s7
     go_upto_region 19 with fail
     obtain ⟨m0, m1, m2, m3, m4, m5, m6, m7, m8, m9, m10, m11, m12, mf⟩ := HM4.out.cells
     obtain ⟨d0, d1, d2, d3, d4, d5, df⟩ := HQ5.out.cells
     obtain ⟨q0, q1, q2, q3⟩ := HC4.out
     have k8 := Cl.cell m8
     have k2 := Cl.cell d2
     have kq := Cl.cell q0
     have hne := Aft.here W4
     have G4 := hid (fun z : Aft W4 => H4.out z.u (HS3.out.trans (HW4.out.trans z.s)))
     have G6 := hid (fun z : Aft W4 => H6.out z.u (HS3.out.trans (HW4.out.trans z.s)))
     clear m0 m1 m2 m3 m4 m5 m6 m7 m8 m9 m10 m11 m12 mf d0 d1 d2 d3 d4 d5 df q0 q1 q2 q3
     refine region_all (by kernel_rfl) (by kernel_rfl) ?_
     repeat (go_big_quiet_step ((first | (go_at_call 23; with_reducible exact Calls.cl (G4.out _)) | (go_at_call 23; with_reducible exact Calls.cl (G6.out _)))))
     refine wpQuiet_nil ?_
     intro W5 h5
     have HW5 := hid (HW4.out.trans h5)
     have HM5 := hid (HM4.out.still h5)
     have HI5 := hid (H5.out W5 (HS3.out.trans HW5.out))
     obtain ⟨m0, m1, m2, m3, m4, m5, m6, m7, m8, m9, m10, m11, m12, mf⟩ := HM5.out.cells
     clear h5 hne k8 k2 kq G4 G6 HW4 HM4 HQ5 HC4 H4 H5 H6 s8 s9 s10 s11
     obtain ⟨y, ey⟩ : ∃ y, l3S v11 a.sh = y := ⟨_, rfl⟩
     have Z := l3S_sz (t := a.sh) HZ.out
     rw [ey] at HSu Z
     obtain ⟨u1, f1, z1, s1⟩ := cat_ex (a := y) (b := ⟨#[32, 111, 117, 116, 32]⟩) (m := 28 + 33 * r + 169 * i + 142) (n := 5) Z (by decide) (by omega)
     obtain ⟨u2, f2, z2, s2⟩ := cat_ex (a := u1) (b := x5) (m := 28 + 33 * r + 169 * i + 147) (n := 21) z1 HX5.out (by omega)
     obtain ⟨u3, f3, z3, s3⟩ := cat_ex (a := u2) (b := ⟨#[10]⟩) (m := 28 + 33 * r + 169 * i + 168) (n := 1) z2 (by decide) (by omega)
     obtain ⟨u4, f4, z4, s4⟩ := cat_ex (a := y) (b := ⟨#[10]⟩) (m := 28 + 33 * r + 169 * i + 142) (n := 1) Z (by decide) (by omega)
     have HR1 : Hid (0 < a.ou -> lsS M S t0 (i + 1) = u3) := hid (fun h => by rw [HSu.out, HL4.out _ h, f1, f2, f3])
     have HR2 : Hid (¬ 0 < a.ou -> lsS M S t0 (i + 1) = u4) := hid (fun h => by rw [HSu.out, HL4n.out _ h, f4])
     have HEY := hid ey
     clear f1 f2 f3 f4 z1 z2 z3 z4 Z ey HZ HX5 HSu HL4 HL4n
     have ho := m11
     cases hb : a.sh with
     | true =>
      obtain ⟨u0, f0, z0, s0⟩ := cat_ex (a := v11) (b := ⟨#[32, 115, 104, 105, 101, 108, 100]⟩) (m := v11.size) (n := 7) (Nat.le_refl _) (by decide) (by have := HV.out; omega)
      have ey := HEY.out
      rw [hb] at m9 ey
      obtain rfl : u0 = y := by rw [<- ey, <- f0]; rfl
      clear f0 z0 ey
      by_cases hou : 0 < a.ou
      ·have HEq := hid (HR1.out hou)
       clear HR1 HR2 HEY ho
       go_wp2_with fail
       refine HI5.out.mono ?_
       rintro e w6 ⟨rfl, h6⟩
       have HW6 := hid (HW5.out.trans h6)
       clear h6 m0 m1 m2 m3 m4 m5 m6 m7 m8 m9 m10 m11 m12 mf
       go_wp2_with fail
       go_roundw
       case rel => exact ⟨i + 1, by omega, by go_num, by rw [HEq.out], HW6.out⟩
       case measure => first | (simp [intOf]; done) | (simp [intOf]; omega)
      ·have HEq := hid (HR2.out hou)
       clear HR1 HR2 HEY ho HI5
       go_wp2_with fail
       go_roundw
       case rel => exact ⟨i + 1, by omega, by go_num, by rw [HEq.out], HW5.out⟩
       case measure => first | (simp [intOf]; done) | (simp [intOf]; omega)
     | false =>
      have ey := HEY.out
      rw [hb] at m9 ey
      obtain rfl : v11 = y := by rw [<- ey]; rfl
      clear ey
      by_cases hou : 0 < a.ou
      ·have HEq := hid (HR1.out hou)
       clear HR1 HR2 HEY ho
       go_wp2_with fail
       refine HI5.out.mono ?_
       rintro e w6 ⟨rfl, h6⟩
       have HW6 := hid (HW5.out.trans h6)
       clear h6 m0 m1 m2 m3 m4 m5 m6 m7 m8 m9 m10 m11 m12 mf
       go_wp2_with fail
       go_roundw
       case rel => exact ⟨i + 1, by omega, by go_num, by rw [HEq.out], HW6.out⟩
       case measure => first | (simp [intOf]; done) | (simp [intOf]; omega)
      ·have HEq := hid (HR2.out hou)
       clear HR1 HR2 HEY ho HI5
       go_wp2_with fail
       go_roundw
       case rel => exact ⟨i + 1, by omega, by go_num, by rw [HEq.out], HW5.out⟩
       case measure => first | (simp [intOf]; done) | (simp [intOf]; omega)
    ·have hge : ¬ (i : Int) < (n : Int) := by omega
     obtain rfl : i = n := by omega
     have HS9 := hid (HS3.out.trans hs)
     have e1 := HW.out
     rw [<- e1]
     clear hs hin e1
     go_wp2_with fail
     go_ret2
     exact ⟨rfl, HS9.out⟩
end Go.Proofs.YthcjckgmdokmdaaGreatDoor
namespace Go.Proofs.YthcjckgmdokmdaaGreatDoor
open Go.RowKit
open Pu Gp Np Za Ka Ja Ea Ha
set_option maxRecDepth 100000
theorem and_4095 (n : Int) : bits .and .i64 n 4095 = n % 4096 := by
 have hb : IntKind.i64.bits = 64 := rfl
 have h1 : (BitVec.ofInt IntKind.i64.bits n).toNat = (n % 18446744073709551616).toNat := by
  rw [BitVec.toNat_ofInt, hb]
  rw [show ((2 ^ 64 : Nat) : Int) = 18446744073709551616 from rfl]
 have h2 : (BitVec.ofInt IntKind.i64.bits 4095).toNat = 2 ^ 12 - 1 := by
  rw [BitVec.toNat_ofInt, hb]
  rfl
 simp only [bits, BitVec.toNat_and, h1, h2]
 rw [Nat.and_two_pow_sub_one_eq_mod, IntKind.wrap_i64]
 have e : (2 : Nat) ^ 12 = 4096 := rfl
 rw [e]
 omega
theorem down_is {n : Int} (h : -4611686018427387904 <= n /\ n <= 4611686018427387904) : wrap64 ((wrap64 (n - n % 4096)).tdiv 4096) = n / 4096 := by
 have e1 : wrap64 (n - n % 4096) = n - n % 4096 := by unfold wrap64; omega
 have e2 : n - n % 4096 = 4096 * (n / 4096) := by omega
 rw [e1, e2, Int.mul_tdiv_cancel_left _ (by decide)]
 unfold wrap64
 omega
theorem down_any (n : Int) (h : -4611686018427387904 <= n /\ n <= 4611686018427387904) (w : World) : Calls Tryz.prog 146 #[.int .i64 n] w fun e w' => e = .returned (.int .i64 (n / 4096)) /\ Still w w' := by
 have HD := hid (down_is h)
 have HA := hid (and_4095 n)
 clear h
 go_enter Tryz.func146, Tryz.ntmps146
 go_wp2_with fail
 go_ret
 rw [HA.out, HD.out]
 exact ⟨rfl, Fr.refl _ _⟩
def Clb (w : World) (g : Nat) (c r : Int) : Prop := w.heap[g]? = some (.cells #[.int .i64 c, .int .i64 r] 117 (0, 0))
theorem Clb.still {w w' : World} {g : Nat} {c r : Int} (h : Clb w g c r) (hs : Still w w') : Clb w' g c r := hs.kept_still h
theorem Clb.cells {w : World} {g : Nat} {c r : Int} (h : Clb w g c r) : w.cell? ⟨g, 0, none⟩ = some (.int .i64 c) /\ w.cell? ⟨g, 1, none⟩ = some (.int .i64 r) /\ ∀ o, w.frozen? ⟨g, o, none⟩ = false := by
 refine ⟨?_, ?_, fun o => frozen_of_row w g o _ _ h⟩ <;> (rw [cell_of_row _ _ _ _ _ _ h]; rfl)
theorem Clb.put {w : World} {g : Nat} {c r : Int} (h : Clb w g c r) (x y : Int) : Clb ((w.setCell ⟨g, 0, none⟩ (.int .i64 x)).setCell ⟨g, 1, none⟩ (.int .i64 y)) g x y := by
 have h1 := heap_setCell_same w g 0 _ _ (.int .i64 x) h
 have h2 := heap_setCell_same _ g 1 _ _ (.int .i64 y) h1
 exact h2.trans (by kernel_rfl)
theorem Clb.load {w : World} {g : Nat} {c r : Int} (h : Clb w g c r) : (loadVar 117 ⟨g, 0, none⟩).run Tryz.prog w = .ok (.agg #[.int .i64 c, .int .i64 r]) w := by
 obtain ⟨c0, c1, cf⟩ := h.cells
 go_simp
theorem Clb.res {fn : Func} {p : Tmp} {w : World} {g : Nat} {c r : Int} (hb : Clb w g c r) (h : fn.results = #[.cell p 117]) (tmps : Array Value) (hp : tmps.getD p undef = .pointer (some ⟨g, 0, none⟩)) :
  (results fn tmps).run Tryz.prog w = .ok (.agg #[.int .i64 c, .int .i64 r]) w := by
 have hp' : tmps[p]?.getD undef = .pointer (some ⟨g, 0, none⟩) := by simpa using hp
 simp [results, h, hp', asAddr, hb.load]
abbrev Plc62 (n : Int) : Prop := -4611686018427387904 <= n /\ n <= 4611686018427387904
set_option maxHeartbeats 2000000 in
theorem cellOf_any (x y : Int) (hx : Plc62 x) (hy : Plc62 y) (w : World) : Calls Tryz.prog 102 #[.agg #[.int .i64 x, .int .i64 y]] w fun e w' => e = .returned (.agg #[.int .i64 (x / 4096), .int .i64 (y / 4096)]) /\ Still w w' := by
 have A0 := Still.alloc w (.cells #[.int .i64 x, .int .i64 y] 54)
 have A1 := Still.alloc (w.alloc (.cells #[.int .i64 x, .int .i64 y] 54)) (.cells #[.int .i64 0, .int .i64 0] 117)
 have p0 : Pb (w.alloc (.cells #[.int .i64 x, .int .i64 y] 54)) w.heap.size x y := heap_alloc_new w _
 have q0 : Clb ((w.alloc (.cells #[.int .i64 x, .int .i64 y] 54)).alloc (.cells #[.int .i64 0, .int .i64 0] 117)) (w.alloc (.cells #[.int .i64 x, .int .i64 y] 54)).heap.size 0 0 := heap_alloc_new _ _
 rw [size_alloc] at q0
 have HP := hid (p0.still A1)
 have HQ := hid q0
 have HS := hid (A0.trans A1)
 have HX := hid (fun u => down_any x hx u)
 have HY := hid (fun u => down_any y hy u)
 obtain ⟨cx, ex⟩ : ∃ z, x / 4096 = z := ⟨_, rfl⟩
 obtain ⟨cy, ey⟩ : ∃ z, y / 4096 = z := ⟨_, rfl⟩
 rw [ex] at HX
 rw [ey] at HY
 rw [ex, ey]
 obtain ⟨W0, eW0⟩ : ∃ X, (w.alloc (.cells #[.int .i64 x, .int .i64 y] 54)).alloc (.cells #[.int .i64 0, .int .i64 0] 117) = X := ⟨_, rfl⟩
 rw [eW0] at HP HQ HS
 clear A0 A1 p0 q0 hx hy ex ey
 go_enter Tryz.func102, Tryz.ntmps102
 go_upto_region 1 with fail
 (try rw [eW0])
 clear eW0
 refine region_late 7 (by kernel_rfl) (by kernel_rfl) (by kernel_rfl) ?_
 apply Exists.intro
 refine And.intro ?_ ?_
 ·intro u hu
  obtain ⟨c0, c1, cf⟩ := (HP.out.still hu).cells
  have k0 := Cl.cell c0
  have k1 := Cl.cell c1
  have hne := Aft.here u
  have G1 := hid (fun z : Aft u => HX.out z.u)
  have G2 := hid (fun z : Aft u => HY.out z.u)
  clear c0 c1 cf
  simp only [List.take_succ_cons, List.take_zero]
  repeat (go_big_quiet_step ((first | (go_at_call 146; with_reducible exact Calls.cl (G1.out _)) | (go_at_call 146; with_reducible exact Calls.cl (G2.out _)))))
  exact wpQuiet_nil rfl
 intro w3 h3
 simp only [List.drop_succ_cons, List.drop_zero]
 have HQ3 := hid (HQ.out.still h3)
 have HS3 := hid (HS.out.trans h3)
 have HQ4 := hid (HQ3.out.put cx cy)
 obtain ⟨e0, e1, ef⟩ := HQ3.out.cells
 clear h3 HP HQ HS HX HY
 go_wp2_with fail
 refine ⟨rfl, ?_⟩
 go_wp2_with fail
 refine bodyPost_ret (Clb.res HQ4.out rfl _ rfl) rfl ⟨rfl, ?_⟩
 repeat (first | refine Fr.setCell ?_ _ _ (.inr (by show w.heap.size <= w.heap.size + 1; omega)) | with_reducible exact HS3.out)
theorem equal_cl (d : Nat) (x y z u : Int) (w : World) : (Op.equalIn (d + 2) 117 (.agg #[.int .i64 x, .int .i64 y]) (.agg #[.int .i64 z, .int .i64 u])).run Tryz.prog w = .ok (x == z && y == u) w := by
 rw [run_equalIn_struct w (d + 1) _ _ _ (by kernel_rfl) (by kernel_rfl)]
 have e : (Tryz.prog.fieldsOf 117) = #[⟨ "col", 3, 0, false, "", "echelon/view", 0⟩, ⟨ "row", 3, 1, false, "", "echelon/view", 8⟩] := by kernel_rfl
 rw [e]
 by_cases h1 : x = z
 ·by_cases h2 : y = u
  ·subst h1 h2
   go_simp
  ·have h3 : (y == u) = false := by simpa using h2
   subst h1
   go_simp
 ·have h3 : (x == z) = false := by simpa using h1
  go_simp
theorem eql_cl (x y z u : Int) (w : World) : (binOp .eql 117 (.agg #[.int .i64 x, .int .i64 y]) (.agg #[.int .i64 z, .int .i64 u])).run Tryz.prog w = .ok (.bool (x == z && y == u)) w := by
 rw [run_eql_struct, equal_cl 9998]; rfl
theorem iv_cell (x y : Int) (c r : Nat) : (x / 4096 == (c : Int) && y / 4096 == (r : Int)) = ivB x y c r := by
 cases e : ivB x y c r
 ·rw [Bool.and_eq_false_iff]
  by_cases h1 : x / 4096 = (c : Int)
  ·by_cases h2 : y / 4096 = (r : Int)
   ·have := ivB_iff (x := x) (y := y) (c := c) (r := r)
    rw [e] at this
    exact absurd (this.2 (by omega)) (by decide)
   ·exact .inr (by simpa using h2)
  ·exact .inl (by simpa using h1)
 ·have := ivB_iff.1 e
  rw [Bool.and_eq_true]
  exact ⟨by simp; omega, by simp; omega⟩
theorem eql_iv (x y : Int) (c r : Nat) (w : World) : (binOp .eql 117 (.agg #[.int .i64 (x / 4096), .int .i64 (y / 4096)]) (.agg #[.int .i64 (c : Int), .int .i64 (r : Int)])).run Tryz.prog w = .ok (.bool (ivB x y c r)) w := by
 rw [eql_cl, iv_cell]
end Go.Proofs.YthcjckgmdokmdaaGreatDoor
namespace Go.Proofs.YthcjckgmdokmdaaGreatDoor
open Go.RowKit
open Pu Gp Np Za Ka Ja Ea Ha
set_option maxRecDepth 100000
theorem Crb.put {w : World} {g : Nat} {x : Cr} (h : Crb w g x) (y : Cr) : Crb (((((((w.setCell ⟨g, 0, none⟩ (.int .i64 y.pe)).setCell ⟨g, 1, none⟩ (.int .i64 y.bx)).setCell ⟨g, 2, none⟩ (.int .i64 y.bz)).setCell ⟨g, 3, none⟩ (.int .i64 y.ax)).setCell ⟨g, 4, none⟩ (.int .i64 y.az)).setCell ⟨g, 5, none⟩ (.int .i64 y.hl)).setCell ⟨g, 6, none⟩ (.int .i64 y.po)) g y := by
 have h1 := heap_setCell_same w g 0 _ _ (.int .i64 y.pe) h
 have h2 := heap_setCell_same _ g 1 _ _ (.int .i64 y.bx) h1
 have h3 := heap_setCell_same _ g 2 _ _ (.int .i64 y.bz) h2
 have h4 := heap_setCell_same _ g 3 _ _ (.int .i64 y.ax) h3
 have h5 := heap_setCell_same _ g 4 _ _ (.int .i64 y.az) h4
 have h6 := heap_setCell_same _ g 5 _ _ (.int .i64 y.hl) h5
 have h7 := heap_setCell_same _ g 6 _ _ (.int .i64 y.po) h6
 exact h7.trans (by kernel_rfl)
theorem Crb.load {w : World} {g : Nat} {x : Cr} (h : Crb w g x) : (loadVar 63 ⟨g, 0, none⟩).run Tryz.prog w = .ok (.agg (crcs x)) w := by
 obtain ⟨c0, c1, c2, c3, c4, c5, c6, cf⟩ := h.cells
 go_simp
theorem Crb.res {fn : Func} {p : Tmp} {w : World} {g : Nat} {x : Cr} (hb : Crb w g x) (h : fn.results = #[.cell p 63]) (tmps : Array Value) (hp : tmps.getD p undef = .pointer (some ⟨g, 0, none⟩)) :
  (results fn tmps).run Tryz.prog w = .ok (.agg (crcs x)) w := by
 have hp' : tmps[p]?.getD undef = .pointer (some ⟨g, 0, none⟩) := by simpa using hp
 simp [results, h, hp', asAddr, hb.load]
set_option maxHeartbeats 8000000 in
theorem vcorrection_any (f1 x1 f2 x2 : Int) (ao bo co so p1 q1 r1 t1 : Option Addr) (ac bc cc sc' p2 p3 q2 q3 r2 r3 t2 t3 : Nat) (n : Nat) (M M' : List Mv) (C C' : List Scr) (w : World) (hM : RdG KM w ao n M) (hC : RdG KC w bo n C) (hM' : RdG KM w co n M') (hC' : RdG KC w so n C') (i : Nat) (hin : i < n) : Calls Tryz.prog 38 #[.int .i64 (i : Int), .agg (wdcs f1 x1 (.slice ao n ac) (.slice bo n bc) (.slice p1 p2 p3) (.slice q1 q2 q3)), .agg (wdcs f2 x2 (.slice co n cc) (.slice so n sc') (.slice r1 r2 r3) (.slice t1 t2 t3))] w fun e w' => e = .returned (.agg (crcs (crV i (mm M i) (mm M' i) (sc C i) (sc C' i)))) /\ Still w w' := by
 have A0 := Still.alloc w (.cells (wdcs f1 x1 (.slice ao n ac) (.slice bo n bc) (.slice p1 p2 p3) (.slice q1 q2 q3)) 33)
 have A1 := Still.alloc (w.alloc (.cells (wdcs f1 x1 (.slice ao n ac) (.slice bo n bc) (.slice p1 p2 p3) (.slice q1 q2 q3)) 33)) (.cells (wdcs f2 x2 (.slice co n cc) (.slice so n sc') (.slice r1 r2 r3) (.slice t1 t2 t3)) 33)
 have A2 := Still.alloc ((w.alloc (.cells (wdcs f1 x1 (.slice ao n ac) (.slice bo n bc) (.slice p1 p2 p3) (.slice q1 q2 q3)) 33)).alloc (.cells (wdcs f2 x2 (.slice co n cc) (.slice so n sc') (.slice r1 r2 r3) (.slice t1 t2 t3)) 33)) (.cells #[.int .i64 0, .int .i64 0, .int .i64 0, .int .i64 0, .int .i64 0, .int .i64 0, .int .i64 0] 63)
 have q0 := (newWd_wb w f1 x1 (.slice ao n ac) (.slice bo n bc) (.slice p1 p2 p3) (.slice q1 q2 q3)).still (A1.trans A2)
 have q1' := (newWd_wb (w.alloc (.cells (wdcs f1 x1 (.slice ao n ac) (.slice bo n bc) (.slice p1 p2 p3) (.slice q1 q2 q3)) 33)) f2 x2 (.slice co n cc) (.slice so n sc') (.slice r1 r2 r3) (.slice t1 t2 t3)).still A2
 have q2' : Crb (((w.alloc (.cells (wdcs f1 x1 (.slice ao n ac) (.slice bo n bc) (.slice p1 p2 p3) (.slice q1 q2 q3)) 33)).alloc (.cells (wdcs f2 x2 (.slice co n cc) (.slice so n sc') (.slice r1 r2 r3) (.slice t1 t2 t3)) 33)).alloc (.cells #[.int .i64 0, .int .i64 0, .int .i64 0, .int .i64 0, .int .i64 0, .int .i64 0, .int .i64 0] 63)) ((w.alloc (.cells (wdcs f1 x1 (.slice ao n ac) (.slice bo n bc) (.slice p1 p2 p3) (.slice q1 q2 q3)) 33)).alloc (.cells (wdcs f2 x2 (.slice co n cc) (.slice so n sc') (.slice r1 r2 r3) (.slice t1 t2 t3)) 33)).heap.size zCr := heap_alloc_new _ _
 rw [size_alloc] at q1'
 rw [size_alloc, size_alloc] at q2'
 have HS0 := hid (A0.trans (A1.trans A2))
 have HP0 : Hid (Wdb (((w.alloc (.cells (wdcs f1 x1 (.slice ao n ac) (.slice bo n bc) (.slice p1 p2 p3) (.slice q1 q2 q3)) 33)).alloc (.cells (wdcs f2 x2 (.slice co n cc) (.slice so n sc') (.slice r1 r2 r3) (.slice t1 t2 t3)) 33)).alloc (.cells #[.int .i64 0, .int .i64 0, .int .i64 0, .int .i64 0, .int .i64 0, .int .i64 0, .int .i64 0] 63)) w.heap.size f1 x1 (.slice ao n ac) (.slice bo n bc) (.slice p1 p2 p3) (.slice q1 q2 q3)) := hid q0
 have HQ0 : Hid (Wdb (((w.alloc (.cells (wdcs f1 x1 (.slice ao n ac) (.slice bo n bc) (.slice p1 p2 p3) (.slice q1 q2 q3)) 33)).alloc (.cells (wdcs f2 x2 (.slice co n cc) (.slice so n sc') (.slice r1 r2 r3) (.slice t1 t2 t3)) 33)).alloc (.cells #[.int .i64 0, .int .i64 0, .int .i64 0, .int .i64 0, .int .i64 0, .int .i64 0, .int .i64 0] 63)) (w.heap.size + 1) f2 x2 (.slice co n cc) (.slice so n sc') (.slice r1 r2 r3) (.slice t1 t2 t3)) := hid q1'
 have HC0 : Hid (Crb (((w.alloc (.cells (wdcs f1 x1 (.slice ao n ac) (.slice bo n bc) (.slice p1 p2 p3) (.slice q1 q2 q3)) 33)).alloc (.cells (wdcs f2 x2 (.slice co n cc) (.slice so n sc') (.slice r1 r2 r3) (.slice t1 t2 t3)) 33)).alloc (.cells #[.int .i64 0, .int .i64 0, .int .i64 0, .int .i64 0, .int .i64 0, .int .i64 0, .int .i64 0] 63)) (w.heap.size + 1 + 1) zCr) := hid q2'
 obtain ⟨W0, eW0⟩ : ∃ X, (((w.alloc (.cells (wdcs f1 x1 (.slice ao n ac) (.slice bo n bc) (.slice p1 p2 p3) (.slice q1 q2 q3)) 33)).alloc (.cells (wdcs f2 x2 (.slice co n cc) (.slice so n sc') (.slice r1 r2 r3) (.slice t1 t2 t3)) 33)).alloc (.cells #[.int .i64 0, .int .i64 0, .int .i64 0, .int .i64 0, .int .i64 0, .int .i64 0, .int .i64 0] 63)) = X := ⟨_, rfl⟩
 rw [eW0] at HS0 HP0 HQ0 HC0
 have hlt : (i : Int) < (n : Int) := by omega
 have hr1 := hM.still HS0.out
 have hr2 := hM'.still HS0.out
 have hr3 := hC.still HS0.out
 have hr4 := hC'.still HS0.out
 obtain ⟨B1, o1, rfl⟩ := hr1.at (by omega)
 obtain ⟨B2, o2, rfl⟩ := hr2.at (by omega)
 obtain ⟨B3, o3, rfl⟩ := hr3.at (by omega)
 obtain ⟨B4, o4, rfl⟩ := hr4.at (by omega)
 have HR1 := hid (fun u (hu : Still W0 u) => rdM (hr1.still hu) hin)
 have HR2 := hid (fun u (hu : Still W0 u) => rdM (hr2.still hu) hin)
 have HR3 := hid (fun u (hu : Still W0 u) => rdC (hr3.still hu) hin)
 have HR4 := hid (fun u (hu : Still W0 u) => rdC (hr4.still hu) hin)
 obtain ⟨a, ea⟩ : ∃ x, mm M i = x := ⟨_, rfl⟩
 obtain ⟨b, eb⟩ : ∃ x, mm M' i = x := ⟨_, rfl⟩
 obtain ⟨s, es⟩ : ∃ x, sc C i = x := ⟨_, rfl⟩
 obtain ⟨t, et⟩ : ∃ x, sc C' i = x := ⟨_, rfl⟩
 rw [ea] at HR1
 rw [eb] at HR2
 rw [es] at HR3
 rw [et] at HR4
 rw [ea, eb, es, et]
 have hn47 : n <= 281474976710656 := hM.2.1
 clear ea eb es et hr1 hr2 hr3 hr4 hM hM' hC hC' A0 A1 A2 q0 q1' q2' hin
 go_enter Tryz.func38, Tryz.ntmps38
 go_upto_region 1 with fail
 (try rw [eW0])
 clear eW0
 refine region_mk2 10 7 8 (.cells (mcs zM) 56 (0, 0)) (.cells (mcs a) 56 (0, 0)) (.cells (mcs b) 56 (0, 0)) (by kernel_rfl) (by kernel_rfl) (by kernel_rfl) (by kernel_rfl) ⟨rfl, rfl⟩ ⟨rfl, rfl⟩ (fun u b => ⟨nw_mv rfl u, nw_mv rfl u⟩) (fun u => heap_alloc_new u _) ?_
 apply Exists.intro
 refine And.intro ?_ (And.intro ?_ (And.intro ?_ ?_))
 ·intro u hu
  obtain ⟨c0, c1, c2, c3, c4, c5, cf⟩ := (HP0.out.still hu).cells
  obtain ⟨d0, d1, d2, d3, d4, d5, df⟩ := (HQ0.out.still hu).cells
  obtain ⟨m0, m1, m2, m3, m4, m5, m6, m7, m8, m9, m10, m11, m12⟩ := HR1.out u hu
  obtain ⟨n0, n1, n2, n3, n4, n5, n6, n7, n8, n9, n10, n11, n12⟩ := HR2.out u hu
  have k1 := Cl.cell c1
  have k2 := Cl.cell d1
  have y0 := Cl.cell m0
  have y1 := Cl.cell m1
  have y2 := Cl.cell m2
  have y3 := Cl.cell m3
  have y4 := Cl.cell m4
  have y5 := Cl.cell m5
  have y6 := Cl.cell m6
  have y7 := Cl.cell m7
  have y8 := Cl.cell m8
  have y9 := Cl.cell m9
  have y10 := Cl.cell m10
  have y11 := Cl.cell m11
  have y12 := Cl.cell m12
  have z0 := Cl.cell n0
  have z1 := Cl.cell n1
  have z2 := Cl.cell n2
  have z3 := Cl.cell n3
  have z4 := Cl.cell n4
  have z5 := Cl.cell n5
  have z6 := Cl.cell n6
  have z7 := Cl.cell n7
  have z8 := Cl.cell n8
  have z9 := Cl.cell n9
  have z10 := Cl.cell n10
  have z11 := Cl.cell n11
  have z12 := Cl.cell n12
  have hne := Aft.here u
  clear c0 c1 c2 c3 c4 c5 cf d0 d1 d2 d3 d4 d5 df m0 m1 m2 m3 m4 m5 m6 m7 m8 m9 m10 m11 m12 n0 n1 n2 n3 n4 n5 n6 n7 n8 n9 n10 n11 n12
  simp only [qlist, List.take_succ_cons, List.take_zero, List.drop_succ_cons, List.drop_zero, List.cons_append, List.nil_append, Nat.reduceMul, Nat.reduceAdd]
  repeat (go_big_quiet_step (fail))
  exact wpQuiet_nil rfl
 ·exact fun u h hh => st_mv rfl rfl rfl hh
 ·exact fun u h hh => st_mv rfl rfl rfl hh
 intro w2 g1 g2 h2 hg1 hg2 hg12 hm1 hm2
 have p2 : Mb w2 g1 a := hm1
 have q2 : Mb w2 g2 b := hm2
 have HS2 := hid (HS0.out.trans h2)
 have HT2 := hid h2
 have HPa := hid p2
 have HPb := hid q2
 have HC2 := hid (HC0.out.still h2)
 clear h2 hm1 hm2 p2 q2 hg1 hg2 hg12
 simp only [Act.put, List.setIfInBounds_toArray, List.set_cons_succ, List.set_cons_zero]
 go_upto_region 2 with fail
 refine region_late 24 (by kernel_rfl) (by kernel_rfl) (by kernel_rfl) ?_
 apply Exists.intro
 refine And.intro ?_ ?_
 ·intro u hu
  obtain ⟨c0, c1, c2, c3, c4, c5, cf⟩ := (HP0.out.still (HT2.out.trans hu)).cells
  obtain ⟨d0, d1, d2, d3, d4, d5, df⟩ := (HQ0.out.still (HT2.out.trans hu)).cells
  obtain ⟨m0, m1, m2, m3, m4, m5, m6, m7, m8, m9, m10, m11, m12, mf⟩ := (HPa.out.still hu).cells
  obtain ⟨n0, n1, n2, n3, n4, n5, n6, n7, n8, n9, n10, n11, n12, nf⟩ := (HPb.out.still hu).cells
  obtain ⟨s0, s1, s2, s3⟩ := HR3.out u (HT2.out.trans hu)
  obtain ⟨t0, t1', t2', t3'⟩ := HR4.out u (HT2.out.trans hu)
  have k1 := Cl.cell c2
  have k2 := Cl.cell d2
  have k3 := Cl.cell s0
  have k4 := Cl.cell t0
  have y0 := Cl.cell m0
  have y1 := Cl.cell m1
  have y7 := Cl.cell m7
  have z0 := Cl.cell n0
  have z1 := Cl.cell n1
  have z7 := Cl.cell n7
  have hne := Aft.here u
  clear c0 c1 c2 c3 c4 c5 cf d0 d1 d2 d3 d4 d5 df m0 m1 m2 m3 m4 m5 m6 m7 m8 m9 m10 m11 m12 mf n0 n1 n2 n3 n4 n5 n6 n7 n8 n9 n10 n11 n12 nf s0 s1 s2 s3 t0 t1' t2' t3'
  simp only [List.take_succ_cons, List.take_zero]
  repeat (go_big_quiet_step (fail))
  exact wpQuiet_nil rfl
 intro w3 h3
 simp only [List.drop_succ_cons, List.drop_zero]
 have HC3 := hid (HC2.out.still h3)
 have HS3 := hid (HS2.out.trans h3)
 have HC4 := hid (HC3.out.put (crV i a b s t))
 obtain ⟨e0, e1, e2, e3, e4, e5, e6, ef⟩ := HC3.out.cells
 clear h3 HC2 HS2 HP0 HQ0 HR1 HR2 HR3 HR4 HPa HPb HC0
 go_wp2_with fail
 refine ⟨rfl, ?_⟩
 go_wp2_with fail
 refine bodyPost_ret (Crb.res HC4.out rfl _ rfl) rfl ⟨rfl, ?_⟩
 repeat (first | refine Fr.setCell ?_ _ _ (.inr (by show w.heap.size <= w.heap.size + 1 + 1; omega)) | with_reducible exact HS3.out)
def oneB (x : Cr) : Bool := !(x.bx == x.ax && x.bz == x.az) || (x.hl != 0) || (x.po != 0)
set_option maxHeartbeats 4000000 in
theorem visOne_any (x : Cr) (w : World) : Calls Tryz.prog 39 #[.agg (crcs x)] w fun e w' => e = .returned (.bool (oneB x)) /\ Still w w' := by
 have A0 := Still.alloc w (.cells (crcs x) 63)
 have p0 : Crb (w.alloc (.cells (crcs x) 63)) w.heap.size x := heap_alloc_new w _
 obtain ⟨c0, c1, c2, c3, c4, c5, c6, cf⟩ := p0.cells
 have HS := hid A0
 rcases (show ¬ (x.bx = x.ax /\ x.bz = x.az) \/ ((x.bx = x.ax /\ x.bz = x.az) /\ x.hl ≠ 0) \/ ((x.bx = x.ax /\ x.bz = x.az) /\ x.hl = 0) by omega) with h1 | ⟨h1, h2⟩ | ⟨h1, h2⟩
 ·have E1 := neq_pt_t h1
  have HE : Hid (oneB x = true) := hid (by unfold oneB; simp; exact .inl (.inl (by omega)))
  clear h1 A0 p0
  go_enter Tryz.func39, Tryz.ntmps39
  go_wp2_with fail
  go_ret
  exact ⟨by rw [HE.out]; rfl, HS.out⟩
 ·have E1 := neq_pt_f h1
  have bH : (x.hl != 0) = true := by simpa using h2
  have HE : Hid (oneB x = true) := hid (by unfold oneB; rw [bH]; simp)
  clear h1 h2 A0 p0
  go_enter Tryz.func39, Tryz.ntmps39
  go_wp2_with fail
  go_ret
  exact ⟨by rw [HE.out]; rfl, HS.out⟩
 ·have E1 := neq_pt_f h1
  have bH : (x.hl != 0) = false := by simpa using h2
  have HE : Hid (oneB x = (x.po != 0)) := hid (by unfold oneB; rw [bH, h1.1, h1.2]; simp)
  clear h1 h2 A0 p0
  cases bP : (x.po != 0) with
  | false =>
   go_enter Tryz.func39, Tryz.ntmps39
   go_wp2_with fail
   go_ret
   exact ⟨by rw [HE.out, bP]; rfl, HS.out⟩
  | true =>
   go_enter Tryz.func39, Tryz.ntmps39
   go_wp2_with fail
   go_ret
   exact ⟨by rw [HE.out, bP]; rfl, HS.out⟩
theorem wrap_zero {x y : Int} (hx : I64 x) (hy : I64 y) : (wrap64 (y - x) != 0) = (x != y) := by
 have h : wrap64 (y - x) = 0 ↔ x = y := by
  unfold I64 at hx hy
  unfold wrap64
  omega
 by_cases e : x = y
 ·rw [h.2 e, e]; simp
 ·have : wrap64 (y - x) ≠ 0 := fun k => e (h.1 k)
  rw [bne_iff_ne.2 this, bne_iff_ne.2 e]
theorem one_cr {i : Nat} {a b : Mv} {s t : Scr} (h1 : I64 a.hl) (h2 : I64 b.hl) (h3 : I64 s.p) (h4 : I64 t.p) : oneB (crV i a b s t) = crB a b s t := by
 unfold oneB crV crB
 dsimp only
 rw [wrap_zero h1 h2, wrap_zero h3 h4]
set_option maxHeartbeats 4000000 in
theorem vcorrect_no (f1 x1 f2 x2 : Int) (ao bo co so p1 q1 r1 t1 : Option Addr) (ac bc cc sc' p2 p3 q2 q3 r2 r3 t2 t3 : Nat) (n1 n2 n3 n4 : Nat) (h : ¬ (n2 = n1 /\ n3 = n1 /\ n4 = n1)) (w : World) : Calls Tryz.prog 13 #[.agg (wdcs f1 x1 (.slice ao n1 ac) (.slice bo n3 bc) (.slice p1 p2 p3) (.slice q1 q2 q3)), .agg (wdcs f2 x2 (.slice co n2 cc) (.slice so n4 sc') (.slice r1 r2 r3) (.slice t1 t2 t3))] w fun e w' => e = .returned (.tuple #[.slice none 0 0, .int .i64 230]) /\ Still w w' := by
 have A0 := Still.alloc w (.cells (wdcs f1 x1 (.slice ao n1 ac) (.slice bo n3 bc) (.slice p1 p2 p3) (.slice q1 q2 q3)) 33)
 have A1 := Still.alloc (w.alloc (.cells (wdcs f1 x1 (.slice ao n1 ac) (.slice bo n3 bc) (.slice p1 p2 p3) (.slice q1 q2 q3)) 33)) (.cells (wdcs f2 x2 (.slice co n2 cc) (.slice so n4 sc') (.slice r1 r2 r3) (.slice t1 t2 t3)) 33)
 have b0 := newWd_wb (w.alloc (.cells (wdcs f1 x1 (.slice ao n1 ac) (.slice bo n3 bc) (.slice p1 p2 p3) (.slice q1 q2 q3)) 33)) f2 x2 (.slice co n2 cc) (.slice so n4 sc') (.slice r1 r2 r3) (.slice t1 t2 t3)
 rw [size_alloc] at b0
 have HS0 : Hid (Still w ((w.alloc (.cells (wdcs f1 x1 (.slice ao n1 ac) (.slice bo n3 bc) (.slice p1 p2 p3) (.slice q1 q2 q3)) 33)).alloc (.cells (wdcs f2 x2 (.slice co n2 cc) (.slice so n4 sc') (.slice r1 r2 r3) (.slice t1 t2 t3)) 33))) := hid (A0.trans A1)
 have HP0 : Hid (Wdb ((w.alloc (.cells (wdcs f1 x1 (.slice ao n1 ac) (.slice bo n3 bc) (.slice p1 p2 p3) (.slice q1 q2 q3)) 33)).alloc (.cells (wdcs f2 x2 (.slice co n2 cc) (.slice so n4 sc') (.slice r1 r2 r3) (.slice t1 t2 t3)) 33)) w.heap.size f1 x1 (.slice ao n1 ac) (.slice bo n3 bc) (.slice p1 p2 p3) (.slice q1 q2 q3)) := hid ((newWd_wb w f1 x1 (.slice ao n1 ac) (.slice bo n3 bc) (.slice p1 p2 p3) (.slice q1 q2 q3)).still A1)
 have HQ0 : Hid (Wdb ((w.alloc (.cells (wdcs f1 x1 (.slice ao n1 ac) (.slice bo n3 bc) (.slice p1 p2 p3) (.slice q1 q2 q3)) 33)).alloc (.cells (wdcs f2 x2 (.slice co n2 cc) (.slice so n4 sc') (.slice r1 r2 r3) (.slice t1 t2 t3)) 33)) (w.heap.size + 1) f2 x2 (.slice co n2 cc) (.slice so n4 sc') (.slice r1 r2 r3) (.slice t1 t2 t3)) := hid b0
 obtain ⟨W0, eW0⟩ : ∃ X, ((w.alloc (.cells (wdcs f1 x1 (.slice ao n1 ac) (.slice bo n3 bc) (.slice p1 p2 p3) (.slice q1 q2 q3)) 33)).alloc (.cells (wdcs f2 x2 (.slice co n2 cc) (.slice so n4 sc') (.slice r1 r2 r3) (.slice t1 t2 t3)) 33)) = X := ⟨_, rfl⟩
 rw [eW0] at HS0 HP0 HQ0
 obtain ⟨c0, c1, c2, c3, c4, c5, cf⟩ := HP0.out.cells
 obtain ⟨d0, d1, d2, d3, d4, d5, df⟩ := HQ0.out.cells
 clear A0 A1 b0
 by_cases h2 : n2 = n1
 ·have b2 : ((n2 : Int) != (n1 : Int)) = false := by rw [h2]; simp
  by_cases h3 : n3 = n1
  ·have b3 : ((n3 : Int) != (n1 : Int)) = false := by rw [h3]; simp
   have b4 : ((n4 : Int) != (n1 : Int)) = true := by simp; omega
   clear h h2 h3
   go_enter Tryz.func13, Tryz.ntmps13
   go_wp2_with fail
   go_ret2
   exact ⟨rfl, HS0.out⟩
  ·have b3 : ((n3 : Int) != (n1 : Int)) = true := by simp; omega
   clear h h2 h3
   go_enter Tryz.func13, Tryz.ntmps13
   go_wp2_with fail
   go_ret2
   exact ⟨rfl, HS0.out⟩
 ·have b2 : ((n2 : Int) != (n1 : Int)) = true := by simp; omega
  clear h h2
  go_enter Tryz.func13, Tryz.ntmps13
  go_wp2_with fail
  go_ret2
  exact ⟨rfl, HS0.out⟩
set_option maxHeartbeats 16000000 in
theorem vcorrect_yes (f1 x1 f2 x2 : Int) (ao bo co so p1 q1 r1 t1 : Option Addr) (ac bc cc sc' p2 p3 q2 q3 r2 r3 t2 t3 : Nat) (n : Nat) (M M' : List Mv) (C C' : List Scr) (w : World) (hM : RdG KM w ao n M) (hC : RdG KC w bo n C) (hM' : RdG KM w co n M') (hC' : RdG KC w so n C') (hi : InH M C) (hi' : InH M' C') (hb : (n + 1) * 56 <= 140737488355328) : Calls Tryz.prog 13 #[.agg (wdcs f1 x1 (.slice ao n ac) (.slice bo n bc) (.slice p1 p2 p3) (.slice q1 q2 q3)), .agg (wdcs f2 x2 (.slice co n cc) (.slice so n sc') (.slice r1 r2 r3) (.slice t1 t2 t3))] w fun e w' => ∃ v, e = .returned (.tuple #[v, .int .i64 0]) /\ OwG KCr 63 w' w.heap.size v (crN M M' C C' n) /\ Still w w' := by
 have A0 := Still.alloc w (.cells (wdcs f1 x1 (.slice ao n ac) (.slice bo n bc) (.slice p1 p2 p3) (.slice q1 q2 q3)) 33)
 have A1 := Still.alloc (w.alloc (.cells (wdcs f1 x1 (.slice ao n ac) (.slice bo n bc) (.slice p1 p2 p3) (.slice q1 q2 q3)) 33)) (.cells (wdcs f2 x2 (.slice co n cc) (.slice so n sc') (.slice r1 r2 r3) (.slice t1 t2 t3)) 33)
 have b0 := newWd_wb (w.alloc (.cells (wdcs f1 x1 (.slice ao n ac) (.slice bo n bc) (.slice p1 p2 p3) (.slice q1 q2 q3)) 33)) f2 x2 (.slice co n cc) (.slice so n sc') (.slice r1 r2 r3) (.slice t1 t2 t3)
 rw [size_alloc] at b0
 have HS0 : Hid (Still w ((w.alloc (.cells (wdcs f1 x1 (.slice ao n ac) (.slice bo n bc) (.slice p1 p2 p3) (.slice q1 q2 q3)) 33)).alloc (.cells (wdcs f2 x2 (.slice co n cc) (.slice so n sc') (.slice r1 r2 r3) (.slice t1 t2 t3)) 33))) := hid (A0.trans A1)
 have HP0 : Hid (Wdb ((w.alloc (.cells (wdcs f1 x1 (.slice ao n ac) (.slice bo n bc) (.slice p1 p2 p3) (.slice q1 q2 q3)) 33)).alloc (.cells (wdcs f2 x2 (.slice co n cc) (.slice so n sc') (.slice r1 r2 r3) (.slice t1 t2 t3)) 33)) w.heap.size f1 x1 (.slice ao n ac) (.slice bo n bc) (.slice p1 p2 p3) (.slice q1 q2 q3)) := hid ((newWd_wb w f1 x1 (.slice ao n ac) (.slice bo n bc) (.slice p1 p2 p3) (.slice q1 q2 q3)).still A1)
 have HQ0 : Hid (Wdb ((w.alloc (.cells (wdcs f1 x1 (.slice ao n ac) (.slice bo n bc) (.slice p1 p2 p3) (.slice q1 q2 q3)) 33)).alloc (.cells (wdcs f2 x2 (.slice co n cc) (.slice so n sc') (.slice r1 r2 r3) (.slice t1 t2 t3)) 33)) (w.heap.size + 1) f2 x2 (.slice co n cc) (.slice so n sc') (.slice r1 r2 r3) (.slice t1 t2 t3)) := hid b0
 obtain ⟨W0, eW0⟩ : ∃ X, ((w.alloc (.cells (wdcs f1 x1 (.slice ao n ac) (.slice bo n bc) (.slice p1 p2 p3) (.slice q1 q2 q3)) 33)).alloc (.cells (wdcs f2 x2 (.slice co n cc) (.slice so n sc') (.slice r1 r2 r3) (.slice t1 t2 t3)) 33)) = X := ⟨_, rfl⟩
 rw [eW0] at HS0 HP0 HQ0
 obtain ⟨c0, c1, c2, c3, c4, c5, cf⟩ := HP0.out.cells
 obtain ⟨d0, d1, d2, d3, d4, d5, df⟩ := HQ0.out.cells
 clear A0 A1 b0
 have HM1 := hid hM
 have HM2 := hid hM'
 have HC1 := hid hC
 have HC2 := hid hC'
 have hn47 : n <= 281474976710656 := hM.2.1
 have HBd := hid hb
 have HI1 := hid hi
 have HI2 := hid hi'
 clear hM hM' hC hC' hb hi hi'
 go_enter Tryz.func13, Tryz.ntmps13
 go_wp2_with fail
 clear c0 c1 c2 c3 c4 c5 cf d0 d1 d2 d3 d4 d5 df
 (try rw [eW0])
 clear eW0
 go_loopw [7, 33] (fun v u wr => ∃ i : Nat, i <= n /\ u = .int .i64 (i : Int) /\ OwG KCr 63 wr W0.heap.size v (crN M M' C C' i) /\ Still W0 wr) (fun _ u _ => n - (intOf u).toNat)
 case atStart => exact ⟨0, by omega, rfl, OwG.nil _ _, Fr.refl _ _⟩
 case round =>
  obtain ⟨i, hi, rfl, ho, hs⟩ := hrel
  have HS := hid hs
  have HO := hid ho
  obtain ⟨lo, lcp, rfl, hlo⟩ := ho.slice
  obtain ⟨LL, eLL⟩ : ∃ m, crN M M' C C' i = m := ⟨_, rfl⟩
  have HLe : Hid (LL.length <= i) := hid (by rw [<- eLL]; exact crN_len _ _ _ _ i)
  have HStp : Hid (crN M M' C C' (i + 1) = LL ++ (if crB (mm M i) (mm M' i) (sc C i) (sc C' i) then [crV i (mm M i) (mm M' i) (sc C i) (sc C' i)] else [])) := hid (by rw [crN, eLL])
  rw [eLL] at HO ho
  rw [eLL]
  have HEL := hid eLL
  clear eLL
  by_cases hin : i < n
  ·have hlt : (i : Int) < (n : Int) := by omega
   have hr1 := HM1.out.still (HS0.out.trans hs)
   have hr2 := HM2.out.still (HS0.out.trans hs)
   have hr3 := HC1.out.still (HS0.out.trans hs)
   have hr4 := HC2.out.still (HS0.out.trans hs)
   have HCo := hid (vcorrection_any f1 x1 f2 x2 ao bo co so p1 q1 r1 t1 ac bc cc sc' p2 p3 q2 q3 r2 r3 t2 t3 n M M' C C' wr hr1 hr3 hr2 hr4 i hin)
   have HOn : Hid (oneB (crV i (mm M i) (mm M' i) (sc C i) (sc C' i)) = crB (mm M i) (mm M' i) (sc C i) (sc C' i)) := hid (one_cr (HI1.out i).1 (HI2.out i).1 (HI1.out i).2 (HI2.out i).2)
   obtain ⟨c0, c1, c2, c3, c4, c5, cf⟩ := (HP0.out.still hs).cells
   obtain ⟨d0, d1, d2, d3, d4, d5, df⟩ := (HQ0.out.still hs).cells
   obtain ⟨y, ey⟩ : ∃ y, crV i (mm M i) (mm M' i) (sc C i) (sc C' i) = y := ⟨_, rfl⟩
   obtain ⟨bo', eb⟩ : ∃ b, crB (mm M i) (mm M' i) (sc C i) (sc C' i) = b := ⟨_, rfl⟩
   rw [ey] at HCo HOn HStp
   rw [eb] at HOn HStp
   clear ey eb hr1 hr2 hr3 hr4 hs ho hlo
   go_wp2_with fail
   refine HCo.out.mono ?_
   rintro e w3 ⟨rfl, h3⟩
   have A4 := Still.alloc w3 (.cells (crcs y) 63)
   have p4 : Crb (w3.alloc (.cells (crcs y) 63)) w3.heap.size y := heap_alloc_new w3 _
   have HC4 := hid p4
   have HS4 := hid (h3.trans A4)
   have HOe := hid (visOne_any y (w3.alloc (.cells (crcs y) 63)))
   rw [HOn.out] at HOe
   obtain ⟨W4, eW4⟩ : ∃ X, w3.alloc (.cells (crcs y) 63) = X := ⟨_, rfl⟩
   rw [eW4] at HC4 HS4 HOe
   obtain ⟨e0, e1, e2, e3, e4, e5, e6, ef⟩ := HC4.out.cells
   clear h3 A4 p4 HCo HOn c0 c1 c2 c3 c4 c5 cf d0 d1 d2 d3 d4 d5 df
   go_wp2_with fail
   refine HOe.out.mono ?_
   rintro e w5 ⟨rfl, h5⟩
   have HS5 := hid (HS4.out.trans h5)
   have HC5 := hid (HC4.out.still h5)
   clear h5 HOe HS4 HC4 eW4 e0 e1 e2 e3 e4 e5 e6 ef
   obtain ⟨e0, e1, e2, e3, e4, e5, e6, ef⟩ := HC5.out.cells
   cases bo' with
   | true =>
    have A8 := Still.alloc w5 (.cells (crcs y) 63)
    have HO8 := hid (HO.out.still (HS5.out.trans A8))
    have HS8 := hid (HS.out.trans (HS5.out.trans A8))
    have HY8 : Hid ((w5.alloc (.cells (crcs y) 63)).heap[w5.heap.size]? = some (.cells (crcs y) 63 (0, 0))) := hid (heap_alloc_new w5 _)
    have HB8 : Hid (W0.heap.size <= (w5.alloc (.cells (crcs y) 63)).heap.size) := hid HS8.out.size
    have HL8 : Hid ((LL.length + 1) * 56 <= 140737488355328) := hid (Nat.le_trans (Nat.mul_le_mul_right 56 (by have := HLe.out; omega)) HBd.out)
    clear A8
    go_wp2_with (
     at_builtin
     refine wpList_appH KCr _ rfl _ _ 57 rfl Tryz.underlying57 56 infoCr W0.heap.size w5.heap.size _ LL y rfl rfl HO8.out HY8.out HL8.out (by have := HL8.out; omega) HB8.out ?_
     intro v' w' ho' hf'
     have HO9 := hid ho'
     have HF9 := hid hf'
     clear ho' hf' e0 e1 e2 e3 e4 e5 e6 ef)
    go_roundw
    case rel => exact ⟨i + 1, by omega, by go_num, by rw [HStp.out]; exact HO9.out, still_appG HS8.out HO8.out HF9.out (Nat.le_refl _)⟩
    case measure => first | (simp [intOf]; done) | (simp [intOf]; omega)
   | false =>
    clear e0 e1 e2 e3 e4 e5 e6 ef
    go_wp2_with fail
    go_roundw
    case rel => exact ⟨i + 1, by omega, by go_num, by rw [HStp.out]; simpa using HO.out.still HS5.out, HS.out.trans HS5.out⟩
    case measure => first | (simp [intOf]; done) | (simp [intOf]; omega)
  ·have hge : ¬ (i : Int) < (n : Int) := by omega
   obtain rfl : i = n := by omega
   have HS7 := hid (HS0.out.trans hs)
   clear hs ho hin
   go_wp2_with fail
   go_ret2
   exact ⟨_, rfl, by rw [HEL.out]; exact HO.out.less HS0.out.size, HS7.out⟩
end Go.Proofs.YthcjckgmdokmdaaGreatDoor
