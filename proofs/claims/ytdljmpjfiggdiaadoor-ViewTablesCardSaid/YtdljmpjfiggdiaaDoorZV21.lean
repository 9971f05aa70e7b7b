/- Parts of the proof, laid end to end. -/
import Derived.Test.YtdljmpjfiggdiaaDoorZV16
import Derived.Test.YtdljmpjfiggdiaaDoorZV03
import Derived.Test.YtdljmpjfiggdiaaDoorZV14
import Derived.Test.YtdljmpjfiggdiaaDoorZV01
namespace Go.Proofs.YtdljmpjfiggdiaaDoor
open Go.RowKit
open Pu Gp Np Za Ka Ja Ea Ha
set_option maxRecDepth 100000
def InH (M : List Mv) (C : List Scr) : Prop := ∀ i, I64 (mm M i).hl /\ I64 (sc C i).p
theorem inH_of {M : List Mv} {C : List Scr} (h1 : ∀ m ∈ M, I64 m.hl) (h2 : ∀ s ∈ C, I64 s.p) : InH M C := by
 refine fun i => ⟨?_, ?_⟩
 ·unfold mm
  by_cases h : i < M.length
  ·rw [List.getD_eq_getElem?_getD, List.getElem?_eq_getElem h]
   exact h1 _ (List.getElem_mem h)
  ·rw [List.getD_eq_getElem?_getD, List.getElem?_eq_none (by omega)]
   simp [I64, zM]
 ·unfold sc
  by_cases h : i < C.length
  ·rw [List.getD_eq_getElem?_getD, List.getElem?_eq_getElem h]
   exact h2 _ (List.getElem_mem h)
  ·rw [List.getD_eq_getElem?_getD, List.getElem?_eq_none (by omega)]
   simp [I64, zC]
structure Cts23 (x : World) : Prop where
 notes : ∀ (L : List Nv) (ao : Option Addr) (n cap : Nat) (u : World), Still x u -> (∀ y ∈ L, I64 y.a /\ I64 y.b) -> RdG KNv u ao n L -> n <= cap -> n <= 2097152 -> Calls Tryd.prog 12 #[.slice ao n cap] u fun e w' => e = .returned (.tuple #[.string (ntR L), .int .i64 (ntE L)]) /\ Still u w'
 print : ∀ (c : Ctr) (u : World), Still x u -> c.In -> Calls Tryd.prog 16 #[.agg (ctcs c)] u fun e w' => e = .returned (.string (prS c)) /\ Still u w'
 cno : ∀ (f1 x1 f2 x2 : Int) (ao bo co so p1 q1 r1 t1 : Option Addr) (ac bc cc sc' p2 p3 q2 q3 r2 r3 t2 t3 : Nat) (n1 n2 n3 n4 : Nat) (u : World), Still x u -> ¬ (n2 = n1 /\ n3 = n1 /\ n4 = n1) -> Calls Tryd.prog 9 #[.agg (wdcs f1 x1 (.slice ao n1 ac) (.slice bo n3 bc) (.slice p1 p2 p3) (.slice q1 q2 q3)), .agg (wdcs f2 x2 (.slice co n2 cc) (.slice so n4 sc') (.slice r1 r2 r3) (.slice t1 t2 t3))] u fun e w' => e = .returned (.tuple #[.slice none 0 0, .int .i64 230]) /\ Still u w'
 cyes : ∀ (f1 x1 f2 x2 : Int) (ao bo co so p1 q1 r1 t1 : Option Addr) (ac bc cc sc' p2 p3 q2 q3 r2 r3 t2 t3 : Nat) (n : Nat) (M M' : List Mv) (C C' : List Scr) (u : World), Still x u -> RdG KM u ao n M -> RdG KC u bo n C -> RdG KM u co n M' -> RdG KC u so n C' -> InH M C -> InH M' C' -> (n + 1) * 56 <= 140737488355328 -> Calls Tryd.prog 9 #[.agg (wdcs f1 x1 (.slice ao n ac) (.slice bo n bc) (.slice p1 p2 p3) (.slice q1 q2 q3)), .agg (wdcs f2 x2 (.slice co n cc) (.slice so n sc') (.slice r1 r2 r3) (.slice t1 t2 t3))] u fun e w' => ∃ v, e = .returned (.tuple #[v, .int .i64 0]) /\ OwG KCr 37 w' u.heap.size v (crN M M' C C' n) /\ Still u w'
theorem itS_dig {k : Nat} (h : k < 10) : itS (k : Int) = ⟨#[UInt8.ofNat (48 + k)]⟩ := by
 unfold itS Lib.itoa
 rw [if_neg (by omega), Lib.decDigits, dif_pos (by omega)]
 simp
def L3 : List Nv := [⟨1, 0, 7⟩, ⟨5, 2, 3⟩, ⟨6, 3, 2⟩]
def L9 : List Nv := [⟨9, 0, 0⟩]
theorem nt_3 : ntR L3 = ⟨#[65, 32, 102, 105, 114, 101, 100, 32, 55, 10, 67, 32, 116, 111, 111, 107, 32, 112, 114, 105, 122, 101, 10, 115, 112, 111, 116, 32, 51, 32, 99, 104, 97, 114, 103, 101, 10]⟩ /\ ntE L3 = 0 := by
 have h : L3.all okN = true := by decide
 refine ⟨(nt_yes h).1.trans ?_, (nt_yes h).2⟩
 have e7 : itS 7 = ⟨#[55]⟩ := itS_dig (k := 7) (by decide)
 have e3 : itS 3 = ⟨#[51]⟩ := itS_dig (k := 3) (by decide)
 show ((((((ByteArray.empty ++ lnS ⟨1, 0, 7⟩) ++ ⟨#[10]⟩) ++ lnS ⟨5, 2, 3⟩) ++ ⟨#[10]⟩) ++ lnS ⟨6, 3, 2⟩) ++ ⟨#[10]⟩) = _
 have a1 : lnS ⟨1, 0, 7⟩ = (ltS 0 ++ ⟨#[32, 102, 105, 114, 101, 100, 32]⟩) ++ itS 7 := rfl
 have a2 : lnS ⟨5, 2, 3⟩ = (ltS 2 ++ ⟨#[32, 116, 111, 111, 107, 32]⟩) ++ thgS 3 := rfl
 have a3 : lnS ⟨6, 3, 2⟩ = ((⟨#[115, 112, 111, 116, 32]⟩ ++ itS 3) ++ ⟨#[32]⟩) ++ thgS 2 := rfl
 rw [a1, a2, a3, e7, e3]
 rfl
theorem nt_9 : ntR L9 = ByteArray.empty /\ ntE L9 = 230 := nt_no (by decide)
def zCt : Ctr := ⟨0, 0, 0, 0, 0, 0, 0, 0, 0⟩
theorem pr_0 : prS zCt = ⟨#[116, 105, 99, 107, 115, 32, 48, 32, 115, 116, 97, 108, 108, 115, 32, 48, 32, 115, 116, 101, 112, 115, 32, 48, 32, 99, 111, 112, 105, 101, 115, 32, 48, 32, 108, 97, 116, 101, 32, 48, 32, 115, 101, 110, 116, 32, 48, 32, 103, 111, 116, 32, 48, 32, 114, 101, 102, 117, 115, 101, 100, 32, 48, 32, 97, 99, 99, 101, 112, 116, 101, 100, 32, 48]⟩ := by
 have e0 : itS 0 = ⟨#[48]⟩ := itS_dig (k := 0) (by decide)
 unfold prS zCt
 simp only [e0]
 rfl
def m49 : Mv := { zM with ax := 4, ay := 9 }
def m44 : Mv := { zM with ax := 4, ay := 4 }
def s10 : Scr := { zC with p := 10 }
def r23 : Cr := ⟨1, 4, 9, 4, 4, 0, 10⟩
theorem cr_2 : crN [zM, m49] [zM, m44] [zC, zC] [zC, s10] 2 = [r23] := by
 have e0 : wrap64 0 = 0 := by unfold wrap64; omega
 have e1 : wrap64 10 = 10 := by unfold wrap64; omega
 simp [crN, crB, crV, mm, sc, m49, m44, s10, r23, zM, zC, List.getD, e0, e1]
set_option maxHeartbeats 8000000 in
theorem awake23_any (x w : World) (C : Cts23 x) (hx : Still x w) : Calls Tryd.prog 8 #[] w fun e w' => e = .returned (.bool true) /\ Still w w' := by
 have HC := hid C
 have HX := hid hx
 have A1 := Still.alloc w (.cells #[.int .i64 1, .int .i64 0, .int .i64 7, .int .i64 5, .int .i64 2, .int .i64 3, .int .i64 6, .int .i64 3, .int .i64 2] 50)
 have r1 : RdG KNv (w.alloc (.cells #[.int .i64 1, .int .i64 0, .int .i64 7, .int .i64 5, .int .i64 2, .int .i64 3, .int .i64 6, .int .i64 3, .int .i64 2] 50)) (some ⟨w.heap.size, 0, none⟩) 3 L3 := rd_blk (heap_alloc_new w _) L3 rfl (by decide)
 have H1 := hid (C.notes L3 _ 3 3 _ (hx.trans A1) (by simp [L3, I64]) r1 (Nat.le_refl _) (by decide))
 rw [nt_3.1, nt_3.2] at H1
 have HA1 := hid A1
 clear C hx A1 r1
 go_enter Tryd.func8, Tryd.ntmps8
 go_wp2_with fail
 refine H1.out.mono ?_
 rintro e w1 ⟨rfl, h1⟩
 have HS1 := hid (HA1.out.trans h1)
 have A2 := Still.alloc w1 (.cells #[.int .i64 9, .int .i64 0, .int .i64 0] 50)
 have r2 : RdG KNv (w1.alloc (.cells #[.int .i64 9, .int .i64 0, .int .i64 0] 50)) (some ⟨w1.heap.size, 0, none⟩) 1 L9 := rd_blk (heap_alloc_new w1 _) L9 rfl (by decide)
 have H2 := hid (HC.out.notes L9 _ 1 1 _ ((HX.out.trans HS1.out).trans A2) (by simp [L9, I64]) r2 (Nat.le_refl _) (by decide))
 rw [nt_9.1, nt_9.2] at H2
 have HA2 := hid A2
 clear A2 r2 h1 H1 HA1
 go_wp2_with fail
 refine H2.out.mono ?_
 rintro e w2 ⟨rfl, h2⟩
 have HS2 := hid (HS1.out.trans (HA2.out.trans h2))
 have H3 := hid (HC.out.print zCt w2 (HX.out.trans HS2.out) (by simp [Ctr.In, zCt, I64]))
 rw [pr_0] at H3
 clear h2 H2 HA2 HS1
 go_wp2_with fail
 refine H3.out.mono ?_
 rintro e w3 ⟨rfl, h3⟩
 have HS3 := hid (HS2.out.trans h3)
 clear h3 H3 HS2
 obtain ⟨mk0, mo⟩ := makeG KC (t := 23) Tryd.underlying23 32 infoC 2 (by omega) (by omega)
 obtain ⟨Z8, eZ⟩ : ∃ z, madeCells (KC.f KC.d).toArray (2 * KC.k) = z := ⟨_, rfl⟩
 rw [eZ] at mk0 mo
 have mk : ∀ W : World, (Instr.makeSlice 23 (.int .i64 2) (.int .i64 2)).run Tryd.prog W = .ok (.slice (some ⟨W.heap.size, 0, none⟩) 2 2) (W.alloc (.cells Z8 54)) := mk0
 have A4 := Still.alloc w3 (.cells #[.int .i64 0, .int .i64 0, .int .i64 0, .int .i64 0, .int .i64 0, .int .i64 0, .int .i64 0, .int .i64 0, .int .i64 0, .bool false, .int .i64 0, .int .i64 0, .int .i64 0, .int .i64 4, .int .i64 9, .int .i64 0, .int .i64 0, .int .i64 0, .int .i64 0, .int .i64 0, .int .i64 0, .int .i64 0, .bool false, .int .i64 0, .int .i64 0, .int .i64 0] 52)
 have r4 : RdG KM (w3.alloc (.cells #[.int .i64 0, .int .i64 0, .int .i64 0, .int .i64 0, .int .i64 0, .int .i64 0, .int .i64 0, .int .i64 0, .int .i64 0, .bool false, .int .i64 0, .int .i64 0, .int .i64 0, .int .i64 4, .int .i64 9, .int .i64 0, .int .i64 0, .int .i64 0, .int .i64 0, .int .i64 0, .int .i64 0, .int .i64 0, .bool false, .int .i64 0, .int .i64 0, .int .i64 0] 52)) (some ⟨w3.heap.size, 0, none⟩) 2 [zM, m49] := rd_blk (heap_alloc_new w3 _) [zM, m49] rfl (by decide)
 obtain ⟨W4, eW4⟩ : ∃ X, w3.alloc (.cells #[.int .i64 0, .int .i64 0, .int .i64 0, .int .i64 0, .int .i64 0, .int .i64 0, .int .i64 0, .int .i64 0, .int .i64 0, .bool false, .int .i64 0, .int .i64 0, .int .i64 0, .int .i64 4, .int .i64 9, .int .i64 0, .int .i64 0, .int .i64 0, .int .i64 0, .int .i64 0, .int .i64 0, .int .i64 0, .bool false, .int .i64 0, .int .i64 0, .int .i64 0] 52) = X := ⟨_, rfl⟩
 have z4 : W4.heap.size = w3.heap.size + 1 := by rw [<- eW4, size_alloc]
 rw [eW4] at A4 r4
 have A5 := Still.alloc W4 (.cells #[.int .i64 0, .int .i64 0, .int .i64 0, .int .i64 0, .int .i64 0, .int .i64 0, .int .i64 0, .int .i64 0, .int .i64 0, .bool false, .int .i64 0, .int .i64 0, .int .i64 0, .int .i64 4, .int .i64 4, .int .i64 0, .int .i64 0, .int .i64 0, .int .i64 0, .int .i64 0, .int .i64 0, .int .i64 0, .bool false, .int .i64 0, .int .i64 0, .int .i64 0] 52)
 have r5 : RdG KM (W4.alloc (.cells #[.int .i64 0, .int .i64 0, .int .i64 0, .int .i64 0, .int .i64 0, .int .i64 0, .int .i64 0, .int .i64 0, .int .i64 0, .bool false, .int .i64 0, .int .i64 0, .int .i64 0, .int .i64 4, .int .i64 4, .int .i64 0, .int .i64 0, .int .i64 0, .int .i64 0, .int .i64 0, .int .i64 0, .int .i64 0, .bool false, .int .i64 0, .int .i64 0, .int .i64 0] 52)) (some ⟨W4.heap.size, 0, none⟩) 2 [zM, m44] := rd_blk (heap_alloc_new W4 _) [zM, m44] rfl (by decide)
 obtain ⟨W5, eW5⟩ : ∃ X, W4.alloc (.cells #[.int .i64 0, .int .i64 0, .int .i64 0, .int .i64 0, .int .i64 0, .int .i64 0, .int .i64 0, .int .i64 0, .int .i64 0, .bool false, .int .i64 0, .int .i64 0, .int .i64 0, .int .i64 4, .int .i64 4, .int .i64 0, .int .i64 0, .int .i64 0, .int .i64 0, .int .i64 0, .int .i64 0, .int .i64 0, .bool false, .int .i64 0, .int .i64 0, .int .i64 0] 52) = X := ⟨_, rfl⟩
 have z5 : W5.heap.size = w3.heap.size + 1 + 1 := by rw [<- eW5, size_alloc, z4]
 rw [eW5, z4] at r5
 rw [eW5] at A5
 have A6 := Still.alloc W5 (.cells Z8 54)
 have r6 : RdG KC (W5.alloc (.cells Z8 54)) (some ⟨W5.heap.size, 0, none⟩) 2 [zC, zC] := OwG.rd (L := [zC, zC]) (M := []) (mo W5) (by decide)
 obtain ⟨W6, eW6⟩ : ∃ X, W5.alloc (.cells Z8 54) = X := ⟨_, rfl⟩
 have z6 : W6.heap.size = w3.heap.size + 1 + 1 + 1 := by rw [<- eW6, size_alloc, z5]
 rw [eW6, z5] at r6
 rw [eW6] at A6
 have A7 := Still.alloc W6 (.cells #[.int .i64 0, .int .i64 0, .int .i64 0, .int .i64 0, .int .i64 10, .int .i64 0, .int .i64 0, .int .i64 0] 54)
 have r7 : RdG KC (W6.alloc (.cells #[.int .i64 0, .int .i64 0, .int .i64 0, .int .i64 0, .int .i64 10, .int .i64 0, .int .i64 0, .int .i64 0] 54)) (some ⟨W6.heap.size, 0, none⟩) 2 [zC, s10] := rd_blk (heap_alloc_new W6 _) [zC, s10] rfl (by decide)
 obtain ⟨W7, eW7⟩ : ∃ X, W6.alloc (.cells #[.int .i64 0, .int .i64 0, .int .i64 0, .int .i64 0, .int .i64 10, .int .i64 0, .int .i64 0, .int .i64 0] 54) = X := ⟨_, rfl⟩
 rw [eW7, z6] at r7
 rw [eW7] at A7
 have HS7 := hid (HS3.out.trans (A4.trans (A5.trans (A6.trans A7))))
 have H4 := hid (HC.out.cyes 0 0 0 0 (some ⟨w3.heap.size, 0, none⟩) (some ⟨w3.heap.size + 1 + 1, 0, none⟩) (some ⟨w3.heap.size + 1, 0, none⟩) (some ⟨w3.heap.size + 1 + 1 + 1, 0, none⟩) none none none none 2 2 2 2 0 0 0 0 0 0 0 0 2 [zM, m49] [zM, m44] [zC, zC] [zC, s10] W7 (HX.out.trans HS7.out) (r4.still (A5.trans (A6.trans A7))) (r6.still A7) (r5.still (A6.trans A7)) r7 (inH_of (by simp [I64, zM, m49]) (by simp [I64, zC])) (inH_of (by simp [I64, zM, m44]) (by simp [I64, zC, s10])) (by decide))
 rw [cr_2] at H4
 clear A4 A5 A6 A7 r4 r5 r6 r7 mk0 mo eZ HS3 HC HX
 go_wp2_with fail
 refine H4.out.mono ?_
 rintro e w8 ⟨v8, rfl, ho, h8⟩
 obtain ⟨g, cp, rfl, _, _⟩ := ho.head (by decide)
 have HS8 := hid (HS7.out.trans h8)
 have e0 := ho.get (i := 0) (by decide) 0 _ rfl
 have e1 := ho.get (i := 0) (by decide) 1 _ rfl
 have e2 := ho.get (i := 0) (by decide) 2 _ rfl
 have e3 := ho.get (i := 0) (by decide) 3 _ rfl
 have e4 := ho.get (i := 0) (by decide) 4 _ rfl
 have e5 := ho.get (i := 0) (by decide) 5 _ rfl
 have e6 := ho.get (i := 0) (by decide) 6 _ rfl
 simp only [Nat.zero_mul, Nat.zero_add, Nat.add_zero] at e0 e1 e2 e3 e4 e5 e6
 have E1 := eql_cr_t r23
 clear h8 ho H4 eW4 eW5 eW6 eW7 z4 z5 z6 mk HS7
 go_wp2_with fail
 go_ret
 exact ⟨rfl, HS8.out⟩
end Go.Proofs.YtdljmpjfiggdiaaDoor
namespace Go.Proofs.YtdljmpjfiggdiaaDoor
open Go.RowKit
open Pu Gp Np Za Ka Ja Ea Ha
set_option maxRecDepth 100000
theorem Crb.put {w : World} {g : Nat} {x : Cr} (h : Crb w g x) (y : Cr) : Crb (((((((w.setCell ⟨g, 0, none⟩ (.int .i64 y.pe)).setCell ⟨g, 1, none⟩ (.int .i64 y.bx)).setCell ⟨g, 2, none⟩ (.int .i64 y.bz)).setCell ⟨g, 3, none⟩ (.int .i64 y.ax)).setCell ⟨g, 4, none⟩ (.int .i64 y.az)).setCell ⟨g, 5, none⟩ (.int .i64 y.hl)).setCell ⟨g, 6, none⟩ (.int .i64 y.po)) g y := by
 have h1 := heap_setCell_same w g 0 _ _ (.int .i64 y.pe) h
 have h2 := heap_setCell_same _ g 1 _ _ (.int .i64 y.bx) h1
 have h3 := heap_setCell_same _ g 2 _ _ (.int .i64 y.bz) h2
 have h4 := heap_setCell_same _ g 3 _ _ (.int .i64 y.ax) h3
 have h5 := heap_setCell_same _ g 4 _ _ (.int .i64 y.az) h4
 have h6 := heap_setCell_same _ g 5 _ _ (.int .i64 y.hl) h5
 have h7 := heap_setCell_same _ g 6 _ _ (.int .i64 y.po) h6
 exact h7.trans (by kernel_rfl)
theorem Crb.load {w : World} {g : Nat} {x : Cr} (h : Crb w g x) : (loadVar 37 ⟨g, 0, none⟩).run Tryd.prog w = .ok (.agg (crcs x)) w := by
 obtain ⟨c0, c1, c2, c3, c4, c5, c6, cf⟩ := h.cells
 go_simp
theorem Crb.res {fn : Func} {p : Tmp} {w : World} {g : Nat} {x : Cr} (hb : Crb w g x) (h : fn.results = #[.cell p 37]) (tmps : Array Value) (hp : tmps.getD p undef = .pointer (some ⟨g, 0, none⟩)) :
  (results fn tmps).run Tryd.prog w = .ok (.agg (crcs x)) w := by
 have hp' : tmps[p]?.getD undef = .pointer (some ⟨g, 0, none⟩) := by simpa using hp
 simp [results, h, hp', asAddr, hb.load]
set_option maxHeartbeats 8000000 in
theorem vcorrection_any (f1 x1 f2 x2 : Int) (ao bo co so p1 q1 r1 t1 : Option Addr) (ac bc cc sc' p2 p3 q2 q3 r2 r3 t2 t3 : Nat) (n : Nat) (M M' : List Mv) (C C' : List Scr) (w : World) (hM : RdG KM w ao n M) (hC : RdG KC w bo n C) (hM' : RdG KM w co n M') (hC' : RdG KC w so n C') (i : Nat) (hin : i < n) : Calls Tryd.prog 18 #[.int .i64 (i : Int), .agg (wdcs f1 x1 (.slice ao n ac) (.slice bo n bc) (.slice p1 p2 p3) (.slice q1 q2 q3)), .agg (wdcs f2 x2 (.slice co n cc) (.slice so n sc') (.slice r1 r2 r3) (.slice t1 t2 t3))] w fun e w' => e = .returned (.agg (crcs (crV i (mm M i) (mm M' i) (sc C i) (sc C' i)))) /\ Still w w' := by
 have A0 := Still.alloc w (.cells (wdcs f1 x1 (.slice ao n ac) (.slice bo n bc) (.slice p1 p2 p3) (.slice q1 q2 q3)) 27)
 have A1 := Still.alloc (w.alloc (.cells (wdcs f1 x1 (.slice ao n ac) (.slice bo n bc) (.slice p1 p2 p3) (.slice q1 q2 q3)) 27)) (.cells (wdcs f2 x2 (.slice co n cc) (.slice so n sc') (.slice r1 r2 r3) (.slice t1 t2 t3)) 27)
 have A2 := Still.alloc ((w.alloc (.cells (wdcs f1 x1 (.slice ao n ac) (.slice bo n bc) (.slice p1 p2 p3) (.slice q1 q2 q3)) 27)).alloc (.cells (wdcs f2 x2 (.slice co n cc) (.slice so n sc') (.slice r1 r2 r3) (.slice t1 t2 t3)) 27)) (.cells #[.int .i64 0, .int .i64 0, .int .i64 0, .int .i64 0, .int .i64 0, .int .i64 0, .int .i64 0] 37)
 have q0 := (newWd_wb w f1 x1 (.slice ao n ac) (.slice bo n bc) (.slice p1 p2 p3) (.slice q1 q2 q3)).still (A1.trans A2)
 have q1' := (newWd_wb (w.alloc (.cells (wdcs f1 x1 (.slice ao n ac) (.slice bo n bc) (.slice p1 p2 p3) (.slice q1 q2 q3)) 27)) f2 x2 (.slice co n cc) (.slice so n sc') (.slice r1 r2 r3) (.slice t1 t2 t3)).still A2
 have q2' : Crb (((w.alloc (.cells (wdcs f1 x1 (.slice ao n ac) (.slice bo n bc) (.slice p1 p2 p3) (.slice q1 q2 q3)) 27)).alloc (.cells (wdcs f2 x2 (.slice co n cc) (.slice so n sc') (.slice r1 r2 r3) (.slice t1 t2 t3)) 27)).alloc (.cells #[.int .i64 0, .int .i64 0, .int .i64 0, .int .i64 0, .int .i64 0, .int .i64 0, .int .i64 0] 37)) ((w.alloc (.cells (wdcs f1 x1 (.slice ao n ac) (.slice bo n bc) (.slice p1 p2 p3) (.slice q1 q2 q3)) 27)).alloc (.cells (wdcs f2 x2 (.slice co n cc) (.slice so n sc') (.slice r1 r2 r3) (.slice t1 t2 t3)) 27)).heap.size zCr := heap_alloc_new _ _
 rw [size_alloc] at q1'
 rw [size_alloc, size_alloc] at q2'
 have HS0 := hid (A0.trans (A1.trans A2))
 have HP0 : Hid (Wdb (((w.alloc (.cells (wdcs f1 x1 (.slice ao n ac) (.slice bo n bc) (.slice p1 p2 p3) (.slice q1 q2 q3)) 27)).alloc (.cells (wdcs f2 x2 (.slice co n cc) (.slice so n sc') (.slice r1 r2 r3) (.slice t1 t2 t3)) 27)).alloc (.cells #[.int .i64 0, .int .i64 0, .int .i64 0, .int .i64 0, .int .i64 0, .int .i64 0, .int .i64 0] 37)) w.heap.size f1 x1 (.slice ao n ac) (.slice bo n bc) (.slice p1 p2 p3) (.slice q1 q2 q3)) := hid q0
 have HQ0 : Hid (Wdb (((w.alloc (.cells (wdcs f1 x1 (.slice ao n ac) (.slice bo n bc) (.slice p1 p2 p3) (.slice q1 q2 q3)) 27)).alloc (.cells (wdcs f2 x2 (.slice co n cc) (.slice so n sc') (.slice r1 r2 r3) (.slice t1 t2 t3)) 27)).alloc (.cells #[.int .i64 0, .int .i64 0, .int .i64 0, .int .i64 0, .int .i64 0, .int .i64 0, .int .i64 0] 37)) (w.heap.size + 1) f2 x2 (.slice co n cc) (.slice so n sc') (.slice r1 r2 r3) (.slice t1 t2 t3)) := hid q1'
 have HC0 : Hid (Crb (((w.alloc (.cells (wdcs f1 x1 (.slice ao n ac) (.slice bo n bc) (.slice p1 p2 p3) (.slice q1 q2 q3)) 27)).alloc (.cells (wdcs f2 x2 (.slice co n cc) (.slice so n sc') (.slice r1 r2 r3) (.slice t1 t2 t3)) 27)).alloc (.cells #[.int .i64 0, .int .i64 0, .int .i64 0, .int .i64 0, .int .i64 0, .int .i64 0, .int .i64 0] 37)) (w.heap.size + 1 + 1) zCr) := hid q2'
 obtain ⟨W0, eW0⟩ : ∃ X, (((w.alloc (.cells (wdcs f1 x1 (.slice ao n ac) (.slice bo n bc) (.slice p1 p2 p3) (.slice q1 q2 q3)) 27)).alloc (.cells (wdcs f2 x2 (.slice co n cc) (.slice so n sc') (.slice r1 r2 r3) (.slice t1 t2 t3)) 27)).alloc (.cells #[.int .i64 0, .int .i64 0, .int .i64 0, .int .i64 0, .int .i64 0, .int .i64 0, .int .i64 0] 37)) = X := ⟨_, rfl⟩
 rw [eW0] at HS0 HP0 HQ0 HC0
 have hlt : (i : Int) < (n : Int) := by omega
 have hr1 := hM.still HS0.out
 have hr2 := hM'.still HS0.out
 have hr3 := hC.still HS0.out
 have hr4 := hC'.still HS0.out
 obtain ⟨B1, o1, rfl⟩ := hr1.at (by omega)
 obtain ⟨B2, o2, rfl⟩ := hr2.at (by omega)
 obtain ⟨B3, o3, rfl⟩ := hr3.at (by omega)
 obtain ⟨B4, o4, rfl⟩ := hr4.at (by omega)
 have HR1 := hid (fun u (hu : Still W0 u) => rdM (hr1.still hu) hin)
 have HR2 := hid (fun u (hu : Still W0 u) => rdM (hr2.still hu) hin)
 have HR3 := hid (fun u (hu : Still W0 u) => rdC (hr3.still hu) hin)
 have HR4 := hid (fun u (hu : Still W0 u) => rdC (hr4.still hu) hin)
 obtain ⟨a, ea⟩ : ∃ x, mm M i = x := ⟨_, rfl⟩
 obtain ⟨b, eb⟩ : ∃ x, mm M' i = x := ⟨_, rfl⟩
 obtain ⟨s, es⟩ : ∃ x, sc C i = x := ⟨_, rfl⟩
 obtain ⟨t, et⟩ : ∃ x, sc C' i = x := ⟨_, rfl⟩
 rw [ea] at HR1
 rw [eb] at HR2
 rw [es] at HR3
 rw [et] at HR4
 rw [ea, eb, es, et]
 have hn47 : n <= 281474976710656 := hM.2.1
 clear ea eb es et hr1 hr2 hr3 hr4 hM hM' hC hC' A0 A1 A2 q0 q1' q2' hin
 go_enter Tryd.func18, Tryd.ntmps18
 go_upto_region 1 with fail
 (try rw [eW0])
 clear eW0
 refine region_mk2 10 7 8 (.cells (mcs zM) 52 (0, 0)) (.cells (mcs a) 52 (0, 0)) (.cells (mcs b) 52 (0, 0)) (by kernel_rfl) (by kernel_rfl) (by kernel_rfl) (by kernel_rfl) ⟨rfl, rfl⟩ ⟨rfl, rfl⟩ (fun u b => ⟨nw_mv rfl u, nw_mv rfl u⟩) (fun u => heap_alloc_new u _) ?_
 apply Exists.intro
 refine And.intro ?_ (And.intro ?_ (And.intro ?_ ?_))
 ·intro u hu
  obtain ⟨c0, c1, c2, c3, c4, c5, cf⟩ := (HP0.out.still hu).cells
  obtain ⟨d0, d1, d2, d3, d4, d5, df⟩ := (HQ0.out.still hu).cells
  obtain ⟨m0, m1, m2, m3, m4, m5, m6, m7, m8, m9, m10, m11, m12⟩ := HR1.out u hu
  obtain ⟨n0, n1, n2, n3, n4, n5, n6, n7, n8, n9, n10, n11, n12⟩ := HR2.out u hu
  have k1 := Cl.cell c1
  have k2 := Cl.cell d1
  have y0 := Cl.cell m0
  have y1 := Cl.cell m1
  have y2 := Cl.cell m2
  have y3 := Cl.cell m3
  have y4 := Cl.cell m4
  have y5 := Cl.cell m5
  have y6 := Cl.cell m6
  have y7 := Cl.cell m7
  have y8 := Cl.cell m8
  have y9 := Cl.cell m9
  have y10 := Cl.cell m10
  have y11 := Cl.cell m11
  have y12 := Cl.cell m12
  have z0 := Cl.cell n0
  have z1 := Cl.cell n1
  have z2 := Cl.cell n2
  have z3 := Cl.cell n3
  have z4 := Cl.cell n4
  have z5 := Cl.cell n5
  have z6 := Cl.cell n6
  have z7 := Cl.cell n7
  have z8 := Cl.cell n8
  have z9 := Cl.cell n9
  have z10 := Cl.cell n10
  have z11 := Cl.cell n11
  have z12 := Cl.cell n12
  have hne := Aft.here u
  clear c0 c1 c2 c3 c4 c5 cf d0 d1 d2 d3 d4 d5 df m0 m1 m2 m3 m4 m5 m6 m7 m8 m9 m10 m11 m12 n0 n1 n2 n3 n4 n5 n6 n7 n8 n9 n10 n11 n12
  simp only [qlist, List.take_succ_cons, List.take_zero, List.drop_succ_cons, List.drop_zero, List.cons_append, List.nil_append, Nat.reduceMul, Nat.reduceAdd]
  repeat (go_big_quiet_step (fail))
  exact wpQuiet_nil rfl
 ·exact fun u h hh => st_mv rfl rfl rfl hh
 ·exact fun u h hh => st_mv rfl rfl rfl hh
 intro w2 g1 g2 h2 hg1 hg2 hg12 hm1 hm2
 have p2 : Mb w2 g1 a := hm1
 have q2 : Mb w2 g2 b := hm2
 have HS2 := hid (HS0.out.trans h2)
 have HT2 := hid h2
 have HPa := hid p2
 have HPb := hid q2
 have HC2 := hid (HC0.out.still h2)
 clear h2 hm1 hm2 p2 q2 hg1 hg2 hg12
 simp only [Act.put, List.setIfInBounds_toArray, List.set_cons_succ, List.set_cons_zero]
 go_upto_region 2 with fail
 refine region_late 24 (by kernel_rfl) (by kernel_rfl) (by kernel_rfl) ?_
 apply Exists.intro
 refine And.intro ?_ ?_
 ·intro u hu
  obtain ⟨c0, c1, c2, c3, c4, c5, cf⟩ := (HP0.out.still (HT2.out.trans hu)).cells
  obtain ⟨d0, d1, d2, d3, d4, d5, df⟩ := (HQ0.out.still (HT2.out.trans hu)).cells
  obtain ⟨m0, m1, m2, m3, m4, m5, m6, m7, m8, m9, m10, m11, m12, mf⟩ := (HPa.out.still hu).cells
  obtain ⟨n0, n1, n2, n3, n4, n5, n6, n7, n8, n9, n10, n11, n12, nf⟩ := (HPb.out.still hu).cells
  obtain ⟨s0, s1, s2, s3⟩ := HR3.out u (HT2.out.trans hu)
  obtain ⟨t0, t1', t2', t3'⟩ := HR4.out u (HT2.out.trans hu)
  have k1 := Cl.cell c2
  have k2 := Cl.cell d2
  have k3 := Cl.cell s0
  have k4 := Cl.cell t0
  have y0 := Cl.cell m0
  have y1 := Cl.cell m1
  have y7 := Cl.cell m7
  have z0 := Cl.cell n0
  have z1 := Cl.cell n1
  have z7 := Cl.cell n7
  have hne := Aft.here u
  clear c0 c1 c2 c3 c4 c5 cf d0 d1 d2 d3 d4 d5 df m0 m1 m2 m3 m4 m5 m6 m7 m8 m9 m10 m11 m12 mf n0 n1 n2 n3 n4 n5 n6 n7 n8 n9 n10 n11 n12 nf s0 s1 s2 s3 t0 t1' t2' t3'
  simp only [List.take_succ_cons, List.take_zero]
  repeat (go_big_quiet_step (fail))
  exact wpQuiet_nil rfl
 intro w3 h3
 simp only [List.drop_succ_cons, List.drop_zero]
 have HC3 := hid (HC2.out.still h3)
 have HS3 := hid (HS2.out.trans h3)
 have HC4 := hid (HC3.out.put (crV i a b s t))
 obtain ⟨e0, e1, e2, e3, e4, e5, e6, ef⟩ := HC3.out.cells
 clear h3 HC2 HS2 HP0 HQ0 HR1 HR2 HR3 HR4 HPa HPb HC0
 go_wp2_with fail
 refine ⟨rfl, ?_⟩
 go_wp2_with fail
 refine bodyPost_ret (Crb.res HC4.out rfl _ rfl) rfl ⟨rfl, ?_⟩
 repeat (first | refine Fr.setCell ?_ _ _ (.inr (by show w.heap.size <= w.heap.size + 1 + 1; omega)) | with_reducible exact HS3.out)
def oneB (x : Cr) : Bool := !(x.bx == x.ax && x.bz == x.az) || (x.hl != 0) || (x.po != 0)
set_option maxHeartbeats 4000000 in
theorem visOne_any (x : Cr) (w : World) : Calls Tryd.prog 19 #[.agg (crcs x)] w fun e w' => e = .returned (.bool (oneB x)) /\ Still w w' := by
 have A0 := Still.alloc w (.cells (crcs x) 37)
 have p0 : Crb (w.alloc (.cells (crcs x) 37)) w.heap.size x := heap_alloc_new w _
 obtain ⟨c0, c1, c2, c3, c4, c5, c6, cf⟩ := p0.cells
 have HS := hid A0
 rcases (show ¬ (x.bx = x.ax /\ x.bz = x.az) \/ ((x.bx = x.ax /\ x.bz = x.az) /\ x.hl ≠ 0) \/ ((x.bx = x.ax /\ x.bz = x.az) /\ x.hl = 0) by omega) with h1 | ⟨h1, h2⟩ | ⟨h1, h2⟩
 ·have E1 := neq_pt_t h1
  have HE : Hid (oneB x = true) := hid (by unfold oneB; simp; exact .inl (.inl (by omega)))
  clear h1 A0 p0
  go_enter Tryd.func19, Tryd.ntmps19
  go_wp2_with fail
  go_ret
  exact ⟨by rw [HE.out]; rfl, HS.out⟩
 ·have E1 := neq_pt_f h1
  have bH : (x.hl != 0) = true := by simpa using h2
  have HE : Hid (oneB x = true) := hid (by unfold oneB; rw [bH]; simp)
  clear h1 h2 A0 p0
  go_enter Tryd.func19, Tryd.ntmps19
  go_wp2_with fail
  go_ret
  exact ⟨by rw [HE.out]; rfl, HS.out⟩
 ·have E1 := neq_pt_f h1
  have bH : (x.hl != 0) = false := by simpa using h2
  have HE : Hid (oneB x = (x.po != 0)) := hid (by unfold oneB; rw [bH, h1.1, h1.2]; simp)
  clear h1 h2 A0 p0
  cases bP : (x.po != 0) with
  | false =>
   go_enter Tryd.func19, Tryd.ntmps19
   go_wp2_with fail
   go_ret
   exact ⟨by rw [HE.out, bP]; rfl, HS.out⟩
  | true =>
   go_enter Tryd.func19, Tryd.ntmps19
   go_wp2_with fail
   go_ret
   exact ⟨by rw [HE.out, bP]; rfl, HS.out⟩
theorem wrap_zero {x y : Int} (hx : I64 x) (hy : I64 y) : (wrap64 (y - x) != 0) = (x != y) := by
 have h : wrap64 (y - x) = 0 ↔ x = y := by
  unfold I64 at hx hy
  unfold wrap64
  omega
 by_cases e : x = y
 ·rw [h.2 e, e]; simp
 ·have : wrap64 (y - x) ≠ 0 := fun k => e (h.1 k)
  rw [bne_iff_ne.2 this, bne_iff_ne.2 e]
theorem one_cr {i : Nat} {a b : Mv} {s t : Scr} (h1 : I64 a.hl) (h2 : I64 b.hl) (h3 : I64 s.p) (h4 : I64 t.p) : oneB (crV i a b s t) = crB a b s t := by
 unfold oneB crV crB
 dsimp only
 rw [wrap_zero h1 h2, wrap_zero h3 h4]
set_option maxHeartbeats 4000000 in
theorem vcorrect_no (f1 x1 f2 x2 : Int) (ao bo co so p1 q1 r1 t1 : Option Addr) (ac bc cc sc' p2 p3 q2 q3 r2 r3 t2 t3 : Nat) (n1 n2 n3 n4 : Nat) (h : ¬ (n2 = n1 /\ n3 = n1 /\ n4 = n1)) (w : World) : Calls Tryd.prog 9 #[.agg (wdcs f1 x1 (.slice ao n1 ac) (.slice bo n3 bc) (.slice p1 p2 p3) (.slice q1 q2 q3)), .agg (wdcs f2 x2 (.slice co n2 cc) (.slice so n4 sc') (.slice r1 r2 r3) (.slice t1 t2 t3))] w fun e w' => e = .returned (.tuple #[.slice none 0 0, .int .i64 230]) /\ Still w w' := by
 have A0 := Still.alloc w (.cells (wdcs f1 x1 (.slice ao n1 ac) (.slice bo n3 bc) (.slice p1 p2 p3) (.slice q1 q2 q3)) 27)
 have A1 := Still.alloc (w.alloc (.cells (wdcs f1 x1 (.slice ao n1 ac) (.slice bo n3 bc) (.slice p1 p2 p3) (.slice q1 q2 q3)) 27)) (.cells (wdcs f2 x2 (.slice co n2 cc) (.slice so n4 sc') (.slice r1 r2 r3) (.slice t1 t2 t3)) 27)
 have b0 := newWd_wb (w.alloc (.cells (wdcs f1 x1 (.slice ao n1 ac) (.slice bo n3 bc) (.slice p1 p2 p3) (.slice q1 q2 q3)) 27)) f2 x2 (.slice co n2 cc) (.slice so n4 sc') (.slice r1 r2 r3) (.slice t1 t2 t3)
 rw [size_alloc] at b0
 have HS0 : Hid (Still w ((w.alloc (.cells (wdcs f1 x1 (.slice ao n1 ac) (.slice bo n3 bc) (.slice p1 p2 p3) (.slice q1 q2 q3)) 27)).alloc (.cells (wdcs f2 x2 (.slice co n2 cc) (.slice so n4 sc') (.slice r1 r2 r3) (.slice t1 t2 t3)) 27))) := hid (A0.trans A1)
 have HP0 : Hid (Wdb ((w.alloc (.cells (wdcs f1 x1 (.slice ao n1 ac) (.slice bo n3 bc) (.slice p1 p2 p3) (.slice q1 q2 q3)) 27)).alloc (.cells (wdcs f2 x2 (.slice co n2 cc) (.slice so n4 sc') (.slice r1 r2 r3) (.slice t1 t2 t3)) 27)) w.heap.size f1 x1 (.slice ao n1 ac) (.slice bo n3 bc) (.slice p1 p2 p3) (.slice q1 q2 q3)) := hid ((newWd_wb w f1 x1 (.slice ao n1 ac) (.slice bo n3 bc) (.slice p1 p2 p3) (.slice q1 q2 q3)).still A1)
 have HQ0 : Hid (Wdb ((w.alloc (.cells (wdcs f1 x1 (.slice ao n1 ac) (.slice bo n3 bc) (.slice p1 p2 p3) (.slice q1 q2 q3)) 27)).alloc (.cells (wdcs f2 x2 (.slice co n2 cc) (.slice so n4 sc') (.slice r1 r2 r3) (.slice t1 t2 t3)) 27)) (w.heap.size + 1) f2 x2 (.slice co n2 cc) (.slice so n4 sc') (.slice r1 r2 r3) (.slice t1 t2 t3)) := hid b0
 obtain ⟨W0, eW0⟩ : ∃ X, ((w.alloc (.cells (wdcs f1 x1 (.slice ao n1 ac) (.slice bo n3 bc) (.slice p1 p2 p3) (.slice q1 q2 q3)) 27)).alloc (.cells (wdcs f2 x2 (.slice co n2 cc) (.slice so n4 sc') (.slice r1 r2 r3) (.slice t1 t2 t3)) 27)) = X := ⟨_, rfl⟩
 rw [eW0] at HS0 HP0 HQ0
 obtain ⟨c0, c1, c2, c3, c4, c5, cf⟩ := HP0.out.cells
 obtain ⟨d0, d1, d2, d3, d4, d5, df⟩ := HQ0.out.cells
 clear A0 A1 b0
 by_cases h2 : n2 = n1
 ·have b2 : ((n2 : Int) != (n1 : Int)) = false := by rw [h2]; simp
  by_cases h3 : n3 = n1
  ·have b3 : ((n3 : Int) != (n1 : Int)) = false := by rw [h3]; simp
   have b4 : ((n4 : Int) != (n1 : Int)) = true := by simp; omega
   clear h h2 h3
   go_enter Tryd.func9, Tryd.ntmps9
   go_wp2_with fail
   go_ret2
   exact ⟨rfl, HS0.out⟩
  ·have b3 : ((n3 : Int) != (n1 : Int)) = true := by simp; omega
   clear h h2 h3
   go_enter Tryd.func9, Tryd.ntmps9
   go_wp2_with fail
   go_ret2
   exact ⟨rfl, HS0.out⟩
 ·have b2 : ((n2 : Int) != (n1 : Int)) = true := by simp; omega
  clear h h2
  go_enter Tryd.func9, Tryd.ntmps9
  go_wp2_with fail
  go_ret2
  exact ⟨rfl, HS0.out⟩
set_option maxHeartbeats 16000000 in
theorem vcorrect_yes (f1 x1 f2 x2 : Int) (ao bo co so p1 q1 r1 t1 : Option Addr) (ac bc cc sc' p2 p3 q2 q3 r2 r3 t2 t3 : Nat) (n : Nat) (M M' : List Mv) (C C' : List Scr) (w : World) (hM : RdG KM w ao n M) (hC : RdG KC w bo n C) (hM' : RdG KM w co n M') (hC' : RdG KC w so n C') (hi : InH M C) (hi' : InH M' C') (hb : (n + 1) * 56 <= 140737488355328) : Calls Tryd.prog 9 #[.agg (wdcs f1 x1 (.slice ao n ac) (.slice bo n bc) (.slice p1 p2 p3) (.slice q1 q2 q3)), .agg (wdcs f2 x2 (.slice co n cc) (.slice so n sc') (.slice r1 r2 r3) (.slice t1 t2 t3))] w fun e w' => ∃ v, e = .returned (.tuple #[v, .int .i64 0]) /\ OwG KCr 37 w' w.heap.size v (crN M M' C C' n) /\ Still w w' := by
 have A0 := Still.alloc w (.cells (wdcs f1 x1 (.slice ao n ac) (.slice bo n bc) (.slice p1 p2 p3) (.slice q1 q2 q3)) 27)
 have A1 := Still.alloc (w.alloc (.cells (wdcs f1 x1 (.slice ao n ac) (.slice bo n bc) (.slice p1 p2 p3) (.slice q1 q2 q3)) 27)) (.cells (wdcs f2 x2 (.slice co n cc) (.slice so n sc') (.slice r1 r2 r3) (.slice t1 t2 t3)) 27)
 have b0 := newWd_wb (w.alloc (.cells (wdcs f1 x1 (.slice ao n ac) (.slice bo n bc) (.slice p1 p2 p3) (.slice q1 q2 q3)) 27)) f2 x2 (.slice co n cc) (.slice so n sc') (.slice r1 r2 r3) (.slice t1 t2 t3)
 rw [size_alloc] at b0
 have HS0 : Hid (Still w ((w.alloc (.cells (wdcs f1 x1 (.slice ao n ac) (.slice bo n bc) (.slice p1 p2 p3) (.slice q1 q2 q3)) 27)).alloc (.cells (wdcs f2 x2 (.slice co n cc) (.slice so n sc') (.slice r1 r2 r3) (.slice t1 t2 t3)) 27))) := hid (A0.trans A1)
 have HP0 : Hid (Wdb ((w.alloc (.cells (wdcs f1 x1 (.slice ao n ac) (.slice bo n bc) (.slice p1 p2 p3) (.slice q1 q2 q3)) 27)).alloc (.cells (wdcs f2 x2 (.slice co n cc) (.slice so n sc') (.slice r1 r2 r3) (.slice t1 t2 t3)) 27)) w.heap.size f1 x1 (.slice ao n ac) (.slice bo n bc) (.slice p1 p2 p3) (.slice q1 q2 q3)) := hid ((newWd_wb w f1 x1 (.slice ao n ac) (.slice bo n bc) (.slice p1 p2 p3) (.slice q1 q2 q3)).still A1)
 have HQ0 : Hid (Wdb ((w.alloc (.cells (wdcs f1 x1 (.slice ao n ac) (.slice bo n bc) (.slice p1 p2 p3) (.slice q1 q2 q3)) 27)).alloc (.cells (wdcs f2 x2 (.slice co n cc) (.slice so n sc') (.slice r1 r2 r3) (.slice t1 t2 t3)) 27)) (w.heap.size + 1) f2 x2 (.slice co n cc) (.slice so n sc') (.slice r1 r2 r3) (.slice t1 t2 t3)) := hid b0
 obtain ⟨W0, eW0⟩ : ∃ X, ((w.alloc (.cells (wdcs f1 x1 (.slice ao n ac) (.slice bo n bc) (.slice p1 p2 p3) (.slice q1 q2 q3)) 27)).alloc (.cells (wdcs f2 x2 (.slice co n cc) (.slice so n sc') (.slice r1 r2 r3) (.slice t1 t2 t3)) 27)) = X := ⟨_, rfl⟩
 rw [eW0] at HS0 HP0 HQ0
 obtain ⟨c0, c1, c2, c3, c4, c5, cf⟩ := HP0.out.cells
 obtain ⟨d0, d1, d2, d3, d4, d5, df⟩ := HQ0.out.cells
 clear A0 A1 b0
 have HM1 := hid hM
 have HM2 := hid hM'
 have HC1 := hid hC
 have HC2 := hid hC'
 have hn47 : n <= 281474976710656 := hM.2.1
 have HBd := hid hb
 have HI1 := hid hi
 have HI2 := hid hi'
 clear hM hM' hC hC' hb hi hi'
 go_enter Tryd.func9, Tryd.ntmps9
 go_wp2_with fail
 clear c0 c1 c2 c3 c4 c5 cf d0 d1 d2 d3 d4 d5 df
 (try rw [eW0])
 clear eW0
 go_loopw [7, 33] (fun v u wr => ∃ i : Nat, i <= n /\ u = .int .i64 (i : Int) /\ OwG KCr 37 wr W0.heap.size v (crN M M' C C' i) /\ Still W0 wr) (fun _ u _ => n - (intOf u).toNat)
 case atStart => exact ⟨0, by omega, rfl, OwG.nil _ _, Fr.refl _ _⟩
 case round =>
  obtain ⟨i, hi, rfl, ho, hs⟩ := hrel
  have HS := hid hs
  have HO := hid ho
  obtain ⟨lo, lcp, rfl, hlo⟩ := ho.slice
  obtain ⟨LL, eLL⟩ : ∃ m, crN M M' C C' i = m := ⟨_, rfl⟩
  have HLe : Hid (LL.length <= i) := hid (by rw [<- eLL]; exact crN_len _ _ _ _ i)
  have HStp : Hid (crN M M' C C' (i + 1) = LL ++ (if crB (mm M i) (mm M' i) (sc C i) (sc C' i) then [crV i (mm M i) (mm M' i) (sc C i) (sc C' i)] else [])) := hid (by rw [crN, eLL])
  rw [eLL] at HO ho
  rw [eLL]
  have HEL := hid eLL
  clear eLL
  by_cases hin : i < n
  ·have hlt : (i : Int) < (n : Int) := by omega
   have hr1 := HM1.out.still (HS0.out.trans hs)
   have hr2 := HM2.out.still (HS0.out.trans hs)
   have hr3 := HC1.out.still (HS0.out.trans hs)
   have hr4 := HC2.out.still (HS0.out.trans hs)
   have HCo := hid (vcorrection_any f1 x1 f2 x2 ao bo co so p1 q1 r1 t1 ac bc cc sc' p2 p3 q2 q3 r2 r3 t2 t3 n M M' C C' wr hr1 hr3 hr2 hr4 i hin)
   have HOn : Hid (oneB (crV i (mm M i) (mm M' i) (sc C i) (sc C' i)) = crB (mm M i) (mm M' i) (sc C i) (sc C' i)) := hid (one_cr (HI1.out i).1 (HI2.out i).1 (HI1.out i).2 (HI2.out i).2)
   obtain ⟨c0, c1, c2, c3, c4, c5, cf⟩ := (HP0.out.still hs).cells
   obtain ⟨d0, d1, d2, d3, d4, d5, df⟩ := (HQ0.out.still hs).cells
   obtain ⟨y, ey⟩ : ∃ y, crV i (mm M i) (mm M' i) (sc C i) (sc C' i) = y := ⟨_, rfl⟩
   obtain ⟨bo', eb⟩ : ∃ b, crB (mm M i) (mm M' i) (sc C i) (sc C' i) = b := ⟨_, rfl⟩
   rw [ey] at HCo HOn HStp
   rw [eb] at HOn HStp
   clear ey eb hr1 hr2 hr3 hr4 hs ho hlo
   go_wp2_with fail
   refine HCo.out.mono ?_
   rintro e w3 ⟨rfl, h3⟩
   have A4 := Still.alloc w3 (.cells (crcs y) 37)
   have p4 : Crb (w3.alloc (.cells (crcs y) 37)) w3.heap.size y := heap_alloc_new w3 _
   have HC4 := hid p4
   have HS4 := hid (h3.trans A4)
   have HOe := hid (visOne_any y (w3.alloc (.cells (crcs y) 37)))
   rw [HOn.out] at HOe
   obtain ⟨W4, eW4⟩ : ∃ X, w3.alloc (.cells (crcs y) 37) = X := ⟨_, rfl⟩
   rw [eW4] at HC4 HS4 HOe
   obtain ⟨e0, e1, e2, e3, e4, e5, e6, ef⟩ := HC4.out.cells
   clear h3 A4 p4 HCo HOn c0 c1 c2 c3 c4 c5 cf d0 d1 d2 d3 d4 d5 df
   go_wp2_with fail
   refine HOe.out.mono ?_
   rintro e w5 ⟨rfl, h5⟩
   have HS5 := hid (HS4.out.trans h5)
   have HC5 := hid (HC4.out.still h5)
   clear h5 HOe HS4 HC4 eW4 e0 e1 e2 e3 e4 e5 e6 ef
   obtain ⟨e0, e1, e2, e3, e4, e5, e6, ef⟩ := HC5.out.cells
   cases bo' with
   | true =>
    have A8 := Still.alloc w5 (.cells (crcs y) 37)
    have HO8 := hid (HO.out.still (HS5.out.trans A8))
    have HS8 := hid (HS.out.trans (HS5.out.trans A8))
    have HY8 : Hid ((w5.alloc (.cells (crcs y) 37)).heap[w5.heap.size]? = some (.cells (crcs y) 37 (0, 0))) := hid (heap_alloc_new w5 _)
    have HB8 : Hid (W0.heap.size <= (w5.alloc (.cells (crcs y) 37)).heap.size) := hid HS8.out.size
    have HL8 : Hid ((LL.length + 1) * 56 <= 140737488355328) := hid (Nat.le_trans (Nat.mul_le_mul_right 56 (by have := HLe.out; omega)) HBd.out)
    clear A8
    go_wp2_with (
     at_builtin
     refine wpList_appH KCr _ rfl _ _ 29 rfl Tryd.underlying29 56 infoCr W0.heap.size w5.heap.size _ LL y rfl rfl HO8.out HY8.out HL8.out (by have := HL8.out; omega) HB8.out ?_
     intro v' w' ho' hf'
     have HO9 := hid ho'
     have HF9 := hid hf'
     clear ho' hf' e0 e1 e2 e3 e4 e5 e6 ef)
    go_roundw
    case rel => exact ⟨i + 1, by omega, by go_num, by rw [HStp.out]; exact HO9.out, still_appG HS8.out HO8.out HF9.out (Nat.le_refl _)⟩
    case measure => first | (simp [intOf]; done) | (simp [intOf]; omega)
   | false =>
    clear e0 e1 e2 e3 e4 e5 e6 ef
    go_wp2_with fail
    go_roundw
    case rel => exact ⟨i + 1, by omega, by go_num, by rw [HStp.out]; simpa using HO.out.still HS5.out, HS.out.trans HS5.out⟩
    case measure => first | (simp [intOf]; done) | (simp [intOf]; omega)
  ·have hge : ¬ (i : Int) < (n : Int) := by omega
   obtain rfl : i = n := by omega
   have HS7 := hid (HS0.out.trans hs)
   clear hs ho hin
   go_wp2_with fail
   go_ret2
   exact ⟨_, rfl, by rw [HEL.out]; exact HO.out.less HS0.out.size, HS7.out⟩
end Go.Proofs.YtdljmpjfiggdiaaDoor
