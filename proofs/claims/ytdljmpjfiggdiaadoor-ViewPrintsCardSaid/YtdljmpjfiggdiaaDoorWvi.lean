/- The layer's contracts as one; the law's awake. -/
import Derived.Test.YtdljmpjfiggdiaaDoorWve
import Derived.Test.YtdljmpjfiggdiaaDoorWvb
import Derived.Test.YtdljmpjfiggdiaaDoorWvh
namespace Go.Proofs.YtdljmpjfiggdiaaDoor
open Go.RowKit
open Pu Gp Np Za Ka Ja Ea Ha
set_option maxRecDepth 100000

/-- the numbers that are compared are the machine's -/
def InH (M : List Mv) (C : List Scr) : Prop := ∀ i, I64 (mm M i).hl ∧ I64 (sc C i).p
theorem inH_of {M : List Mv} {C : List Scr} (h1 : ∀ m ∈ M, I64 m.hl) (h2 : ∀ s ∈ C, I64 s.p) : InH M C := by
  refine fun i => ⟨?_, ?_⟩
  · unfold mm
    by_cases h : i < M.length
    · rw [List.getD_eq_getElem?_getD, List.getElem?_eq_getElem h]
      exact h1 _ (List.getElem_mem h)
    · rw [List.getD_eq_getElem?_getD, List.getElem?_eq_none (by omega)]
      simp [I64, zM]
  · unfold sc
    by_cases h : i < C.length
    · rw [List.getD_eq_getElem?_getD, List.getElem?_eq_getElem h]
      exact h2 _ (List.getElem_mem h)
    · rw [List.getD_eq_getElem?_getD, List.getElem?_eq_none (by omega)]
      simp [I64, zC]
/-- what the layer does, as long as what was there in x has not turned -/
structure Cts23 (x : World) : Prop where
  notes : ∀ (L : List Nv) (ao : Option Addr) (n cap : Nat) (u : World), Still x u → (∀ y ∈ L, I64 y.a ∧ I64 y.b) → RdG KNv u ao n L → n ≤ cap → n ≤ 2097152 → Calls Tryd.prog 12 #[.slice ao n cap] u fun e w' => e = .returned (.tuple #[.string (ntR L), .int .i64 (ntE L)]) ∧ Still u w'
  print : ∀ (c : Ctr) (u : World), Still x u → c.In → Calls Tryd.prog 16 #[.agg (ctcs c)] u fun e w' => e = .returned (.string (prS c)) ∧ Still u w'
  cno : ∀ (f1 x1 f2 x2 : Int) (ao bo co so p1 q1 r1 t1 : Option Addr) (ac bc cc sc' p2 p3 q2 q3 r2 r3 t2 t3 : Nat) (n1 n2 n3 n4 : Nat) (u : World), Still x u → ¬ (n2 = n1 ∧ n3 = n1 ∧ n4 = n1) → Calls Tryd.prog 9 #[.agg (wdcs f1 x1 (.slice ao n1 ac) (.slice bo n3 bc) (.slice p1 p2 p3) (.slice q1 q2 q3)), .agg (wdcs f2 x2 (.slice co n2 cc) (.slice so n4 sc') (.slice r1 r2 r3) (.slice t1 t2 t3))] u fun e w' => e = .returned (.tuple #[.slice none 0 0, .int .i64 230]) ∧ Still u w'
  cyes : ∀ (f1 x1 f2 x2 : Int) (ao bo co so p1 q1 r1 t1 : Option Addr) (ac bc cc sc' p2 p3 q2 q3 r2 r3 t2 t3 : Nat) (n : Nat) (M M' : List Mv) (C C' : List Scr) (u : World), Still x u → RdG KM u ao n M → RdG KC u bo n C → RdG KM u co n M' → RdG KC u so n C' → InH M C → InH M' C' → (n + 1) * 56 ≤ 140737488355328 → Calls Tryd.prog 9 #[.agg (wdcs f1 x1 (.slice ao n ac) (.slice bo n bc) (.slice p1 p2 p3) (.slice q1 q2 q3)), .agg (wdcs f2 x2 (.slice co n cc) (.slice so n sc') (.slice r1 r2 r3) (.slice t1 t2 t3))] u fun e w' => ∃ v, e = .returned (.tuple #[v, .int .i64 0]) ∧ OwG KCr 37 w' u.heap.size v (crN M M' C C' n) ∧ Still u w'
theorem itS_dig {k : Nat} (h : k < 10) : itS (k : Int) = ⟨#[UInt8.ofNat (48 + k)]⟩ := by
  unfold itS Lib.itoa
  rw [if_neg (by omega), Lib.decDigits, dif_pos (by omega)]
  simp
def L3 : List Nv := [⟨1, 0, 7⟩, ⟨5, 2, 3⟩, ⟨6, 3, 2⟩]
def L9 : List Nv := [⟨9, 0, 0⟩]
theorem nt_3 : ntR L3 = ⟨#[65, 32, 102, 105, 114, 101, 100, 32, 55, 10, 67, 32, 116, 111, 111, 107, 32, 112, 114, 105, 122, 101, 10, 115, 112, 111, 116, 32, 51, 32, 99, 104, 97, 114, 103, 101, 10]⟩ ∧ ntE L3 = 0 := by
  have h : L3.all okN = true := by decide
  refine ⟨(nt_yes h).1.trans ?_, (nt_yes h).2⟩
  have e7 : itS 7 = ⟨#[55]⟩ := itS_dig (k := 7) (by decide)
  have e3 : itS 3 = ⟨#[51]⟩ := itS_dig (k := 3) (by decide)
  show ((((((ByteArray.empty ++ lnS ⟨1, 0, 7⟩) ++ ⟨#[10]⟩) ++ lnS ⟨5, 2, 3⟩) ++ ⟨#[10]⟩) ++ lnS ⟨6, 3, 2⟩) ++ ⟨#[10]⟩) = _
  have a1 : lnS ⟨1, 0, 7⟩ = (ltS 0 ++ ⟨#[32, 102, 105, 114, 101, 100, 32]⟩) ++ itS 7 := rfl
  have a2 : lnS ⟨5, 2, 3⟩ = (ltS 2 ++ ⟨#[32, 116, 111, 111, 107, 32]⟩) ++ thgS 3 := rfl
  have a3 : lnS ⟨6, 3, 2⟩ = ((⟨#[115, 112, 111, 116, 32]⟩ ++ itS 3) ++ ⟨#[32]⟩) ++ thgS 2 := rfl
  rw [a1, a2, a3, e7, e3]
  rfl
theorem nt_9 : ntR L9 = ByteArray.empty ∧ ntE L9 = 230 := nt_no (by decide)
def zCt : Ctr := ⟨0, 0, 0, 0, 0, 0, 0, 0, 0⟩
theorem pr_0 : prS zCt = ⟨#[116, 105, 99, 107, 115, 32, 48, 32, 115, 116, 97, 108, 108, 115, 32, 48, 32, 115, 116, 101, 112, 115, 32, 48, 32, 99, 111, 112, 105, 101, 115, 32, 48, 32, 108, 97, 116, 101, 32, 48, 32, 115, 101, 110, 116, 32, 48, 32, 103, 111, 116, 32, 48, 32, 114, 101, 102, 117, 115, 101, 100, 32, 48, 32, 97, 99, 99, 101, 112, 116, 101, 100, 32, 48]⟩ := by
  have e0 : itS 0 = ⟨#[48]⟩ := itS_dig (k := 0) (by decide)
  unfold prS zCt
  simp only [e0]
  rfl
def m49 : Mv := { zM with ax := 4, ay := 9 }
def m44 : Mv := { zM with ax := 4, ay := 4 }
def s10 : Scr := { zC with p := 10 }
def r23 : Cr := ⟨1, 4, 9, 4, 4, 0, 10⟩
theorem cr_2 : crN [zM, m49] [zM, m44] [zC, zC] [zC, s10] 2 = [r23] := by
  have e0 : wrap64 0 = 0 := by unfold wrap64; omega
  have e1 : wrap64 10 = 10 := by unfold wrap64; omega
  simp [crN, crB, crV, mm, sc, m49, m44, s10, r23, zM, zC, List.getD, e0, e1]
set_option maxHeartbeats 8000000 in
theorem awake23_any (x w : World) (C : Cts23 x) (hx : Still x w) : Calls Tryd.prog 8 #[] w fun e w' => e = .returned (.bool true) ∧ Still w w' := by
  have HC := hid C
  have HX := hid hx
  have A1 := Still.alloc w (.cells #[.int .i64 1, .int .i64 0, .int .i64 7, .int .i64 5, .int .i64 2, .int .i64 3, .int .i64 6, .int .i64 3, .int .i64 2] 50)
  have r1 : RdG KNv (w.alloc (.cells #[.int .i64 1, .int .i64 0, .int .i64 7, .int .i64 5, .int .i64 2, .int .i64 3, .int .i64 6, .int .i64 3, .int .i64 2] 50)) (some ⟨w.heap.size, 0, none⟩) 3 L3 := rd_blk (heap_alloc_new w _) L3 rfl (by decide)
  have H1 := hid (C.notes L3 _ 3 3 _ (hx.trans A1) (by simp [L3, I64]) r1 (Nat.le_refl _) (by decide))
  rw [nt_3.1, nt_3.2] at H1
  have HA1 := hid A1
  clear C hx A1 r1
  go_enter Tryd.func8, Tryd.ntmps8
  go_wp2_with fail
  refine H1.out.mono ?_
  rintro e w1 ⟨rfl, h1⟩
  have HS1 := hid (HA1.out.trans h1)
  have A2 := Still.alloc w1 (.cells #[.int .i64 9, .int .i64 0, .int .i64 0] 50)
  have r2 : RdG KNv (w1.alloc (.cells #[.int .i64 9, .int .i64 0, .int .i64 0] 50)) (some ⟨w1.heap.size, 0, none⟩) 1 L9 := rd_blk (heap_alloc_new w1 _) L9 rfl (by decide)
  have H2 := hid (HC.out.notes L9 _ 1 1 _ ((HX.out.trans HS1.out).trans A2) (by simp [L9, I64]) r2 (Nat.le_refl _) (by decide))
  rw [nt_9.1, nt_9.2] at H2
  have HA2 := hid A2
  clear A2 r2 h1 H1 HA1
  go_wp2_with fail
  refine H2.out.mono ?_
  rintro e w2 ⟨rfl, h2⟩
  have HS2 := hid (HS1.out.trans (HA2.out.trans h2))
  have H3 := hid (HC.out.print zCt w2 (HX.out.trans HS2.out) (by simp [Ctr.In, zCt, I64]))
  rw [pr_0] at H3
  clear h2 H2 HA2 HS1
  go_wp2_with fail
  refine H3.out.mono ?_
  rintro e w3 ⟨rfl, h3⟩
  have HS3 := hid (HS2.out.trans h3)
  clear h3 H3 HS2
  obtain ⟨mk0, mo⟩ := makeG KC (t := 23) Tryd.underlying23 32 infoC 2 (by omega) (by omega)
  obtain ⟨Z8, eZ⟩ : ∃ z, madeCells (KC.f KC.d).toArray (2 * KC.k) = z := ⟨_, rfl⟩
  rw [eZ] at mk0 mo
  have mk : ∀ W : World, (Instr.makeSlice 23 (.int .i64 2) (.int .i64 2)).run Tryd.prog W = .ok (.slice (some ⟨W.heap.size, 0, none⟩) 2 2) (W.alloc (.cells Z8 54)) := mk0
  have A4 := Still.alloc w3 (.cells #[.int .i64 0, .int .i64 0, .int .i64 0, .int .i64 0, .int .i64 0, .int .i64 0, .int .i64 0, .int .i64 0, .int .i64 0, .bool false, .int .i64 0, .int .i64 0, .int .i64 0, .int .i64 4, .int .i64 9, .int .i64 0, .int .i64 0, .int .i64 0, .int .i64 0, .int .i64 0, .int .i64 0, .int .i64 0, .bool false, .int .i64 0, .int .i64 0, .int .i64 0] 52)
  have r4 : RdG KM (w3.alloc (.cells #[.int .i64 0, .int .i64 0, .int .i64 0, .int .i64 0, .int .i64 0, .int .i64 0, .int .i64 0, .int .i64 0, .int .i64 0, .bool false, .int .i64 0, .int .i64 0, .int .i64 0, .int .i64 4, .int .i64 9, .int .i64 0, .int .i64 0, .int .i64 0, .int .i64 0, .int .i64 0, .int .i64 0, .int .i64 0, .bool false, .int .i64 0, .int .i64 0, .int .i64 0] 52)) (some ⟨w3.heap.size, 0, none⟩) 2 [zM, m49] := rd_blk (heap_alloc_new w3 _) [zM, m49] rfl (by decide)
  obtain ⟨W4, eW4⟩ : ∃ X, w3.alloc (.cells #[.int .i64 0, .int .i64 0, .int .i64 0, .int .i64 0, .int .i64 0, .int .i64 0, .int .i64 0, .int .i64 0, .int .i64 0, .bool false, .int .i64 0, .int .i64 0, .int .i64 0, .int .i64 4, .int .i64 9, .int .i64 0, .int .i64 0, .int .i64 0, .int .i64 0, .int .i64 0, .int .i64 0, .int .i64 0, .bool false, .int .i64 0, .int .i64 0, .int .i64 0] 52) = X := ⟨_, rfl⟩
  have z4 : W4.heap.size = w3.heap.size + 1 := by rw [← eW4, size_alloc]
  rw [eW4] at A4 r4
  have A5 := Still.alloc W4 (.cells #[.int .i64 0, .int .i64 0, .int .i64 0, .int .i64 0, .int .i64 0, .int .i64 0, .int .i64 0, .int .i64 0, .int .i64 0, .bool false, .int .i64 0, .int .i64 0, .int .i64 0, .int .i64 4, .int .i64 4, .int .i64 0, .int .i64 0, .int .i64 0, .int .i64 0, .int .i64 0, .int .i64 0, .int .i64 0, .bool false, .int .i64 0, .int .i64 0, .int .i64 0] 52)
  have r5 : RdG KM (W4.alloc (.cells #[.int .i64 0, .int .i64 0, .int .i64 0, .int .i64 0, .int .i64 0, .int .i64 0, .int .i64 0, .int .i64 0, .int .i64 0, .bool false, .int .i64 0, .int .i64 0, .int .i64 0, .int .i64 4, .int .i64 4, .int .i64 0, .int .i64 0, .int .i64 0, .int .i64 0, .int .i64 0, .int .i64 0, .int .i64 0, .bool false, .int .i64 0, .int .i64 0, .int .i64 0] 52)) (some ⟨W4.heap.size, 0, none⟩) 2 [zM, m44] := rd_blk (heap_alloc_new W4 _) [zM, m44] rfl (by decide)
  obtain ⟨W5, eW5⟩ : ∃ X, W4.alloc (.cells #[.int .i64 0, .int .i64 0, .int .i64 0, .int .i64 0, .int .i64 0, .int .i64 0, .int .i64 0, .int .i64 0, .int .i64 0, .bool false, .int .i64 0, .int .i64 0, .int .i64 0, .int .i64 4, .int .i64 4, .int .i64 0, .int .i64 0, .int .i64 0, .int .i64 0, .int .i64 0, .int .i64 0, .int .i64 0, .bool false, .int .i64 0, .int .i64 0, .int .i64 0] 52) = X := ⟨_, rfl⟩
  have z5 : W5.heap.size = w3.heap.size + 1 + 1 := by rw [← eW5, size_alloc, z4]
  rw [eW5, z4] at r5
  rw [eW5] at A5
  have A6 := Still.alloc W5 (.cells Z8 54)
  have r6 : RdG KC (W5.alloc (.cells Z8 54)) (some ⟨W5.heap.size, 0, none⟩) 2 [zC, zC] := OwG.rd (L := [zC, zC]) (M := []) (mo W5) (by decide)
  obtain ⟨W6, eW6⟩ : ∃ X, W5.alloc (.cells Z8 54) = X := ⟨_, rfl⟩
  have z6 : W6.heap.size = w3.heap.size + 1 + 1 + 1 := by rw [← eW6, size_alloc, z5]
  rw [eW6, z5] at r6
  rw [eW6] at A6
  have A7 := Still.alloc W6 (.cells #[.int .i64 0, .int .i64 0, .int .i64 0, .int .i64 0, .int .i64 10, .int .i64 0, .int .i64 0, .int .i64 0] 54)
  have r7 : RdG KC (W6.alloc (.cells #[.int .i64 0, .int .i64 0, .int .i64 0, .int .i64 0, .int .i64 10, .int .i64 0, .int .i64 0, .int .i64 0] 54)) (some ⟨W6.heap.size, 0, none⟩) 2 [zC, s10] := rd_blk (heap_alloc_new W6 _) [zC, s10] rfl (by decide)
  obtain ⟨W7, eW7⟩ : ∃ X, W6.alloc (.cells #[.int .i64 0, .int .i64 0, .int .i64 0, .int .i64 0, .int .i64 10, .int .i64 0, .int .i64 0, .int .i64 0] 54) = X := ⟨_, rfl⟩
  rw [eW7, z6] at r7
  rw [eW7] at A7
  have HS7 := hid (HS3.out.trans (A4.trans (A5.trans (A6.trans A7))))
  have H4 := hid (HC.out.cyes 0 0 0 0 (some ⟨w3.heap.size, 0, none⟩) (some ⟨w3.heap.size + 1 + 1, 0, none⟩) (some ⟨w3.heap.size + 1, 0, none⟩) (some ⟨w3.heap.size + 1 + 1 + 1, 0, none⟩) none none none none 2 2 2 2 0 0 0 0 0 0 0 0 2 [zM, m49] [zM, m44] [zC, zC] [zC, s10] W7 (HX.out.trans HS7.out) (r4.still (A5.trans (A6.trans A7))) (r6.still A7) (r5.still (A6.trans A7)) r7 (inH_of (by simp [I64, zM, m49]) (by simp [I64, zC])) (inH_of (by simp [I64, zM, m44]) (by simp [I64, zC, s10])) (by decide))
  rw [cr_2] at H4
  clear A4 A5 A6 A7 r4 r5 r6 r7 mk0 mo eZ HS3 HC HX
  go_wp2_with fail
  refine H4.out.mono ?_
  rintro e w8 ⟨v8, rfl, ho, h8⟩
  obtain ⟨g, cp, rfl, _, _⟩ := ho.head (by decide)
  have HS8 := hid (HS7.out.trans h8)
  have e0 := ho.get (i := 0) (by decide) 0 _ rfl
  have e1 := ho.get (i := 0) (by decide) 1 _ rfl
  have e2 := ho.get (i := 0) (by decide) 2 _ rfl
  have e3 := ho.get (i := 0) (by decide) 3 _ rfl
  have e4 := ho.get (i := 0) (by decide) 4 _ rfl
  have e5 := ho.get (i := 0) (by decide) 5 _ rfl
  have e6 := ho.get (i := 0) (by decide) 6 _ rfl
  simp only [Nat.zero_mul, Nat.zero_add, Nat.add_zero] at e0 e1 e2 e3 e4 e5 e6
  have E1 := eql_cr_t r23
  clear h8 ho H4 eW4 eW5 eW6 eW7 z4 z5 z6 mk HS7
  go_wp2_with fail
  go_ret
  exact ⟨rfl, HS8.out⟩
end Go.Proofs.YtdljmpjfiggdiaaDoor
