/- The document's SameAll; the law's lent, spoil. -/
import Derived.Test.YtakdfckkljbghaaBgk
namespace Go.Proofs.Ytakdfckkljbghaa
open Go.RowKit
set_option maxRecDepth 100000
set_option linter.unusedVariables false

theorem map_at {A S : List Pcl} (h : A.map abP = S.map abP) {i : Nat} (hi : i < A.length) : abP (atP A i) = abP (atP S i) := by
  have hl : A.length = S.length := by simpa using congrArg List.length h
  have := congrArg (fun l => l[i]?) h
  simp only [List.getElem?_map] at this
  unfold atP
  rw [List.getD_eq_getElem?_getD, List.getD_eq_getElem?_getD, List.getElem?_eq_getElem hi, List.getElem?_eq_getElem (by omega)]
  rw [List.getElem?_eq_getElem hi, List.getElem?_eq_getElem (by omega)] at this
  simpa using this
set_option maxHeartbeats 2000000 in
theorem rsameAll_t (A S : List Pcl) (ao so : Option Addr) (n ca cs : Nat) (hn : A.length = n) (h : A.map abP = S.map abP) (w : World) (hA : RdG KPl w ao n A) (hS : RdG KPl w so n S) (qA : ∀ y ∈ A, Rq w y) (qS : ∀ y ∈ S, Rq w y) : Calls Try.prog 22 #[.slice ao n ca, .slice so n cs] w fun e w' => e = .returned (.bool true) ∧ Still w w' := by
  have hn2 : S.length = n := by rw [← hn]; simpa using (congrArg List.length h).symm
  have hmx := hA.2.1
  have HA := hid hA
  have HS := hid hS
  have HQA := hid qA
  have HQS := hid qS
  have HM := hid (fun i (hi : i < n) => map_at h (i := i) (by omega))
  have HL := hid (And.intro hn hn2)
  clear hA hS qA qS h hn hn2
  go_enter Try.func22, Try.ntmps22
  go_wp2_with fail
  go_loopw [5] (fun u wr => ∃ i : Nat, i ≤ n ∧ u = .int .i64 (i : Int) ∧ Hid (Still w wr)) (fun u _ => n - (intOf u).toNat)
  case atStart => exact ⟨0, by omega, rfl, hid (Fr.refl _ _)⟩
  case round =>
    obtain ⟨i, hi, rfl, HW⟩ := hrel
    by_cases hin : i < n
    · have hlt : (i : Int) < (n : Int) := by omega
      have rA := HA.out.still HW.out
      have rS := HS.out.still HW.out
      obtain ⟨B, o, e1⟩ := rA.at (by omega)
      obtain ⟨C, q, e2⟩ := rS.at (by omega)
      subst e1 e2
      obtain ⟨a0, a1, a2, a3⟩ := rdPl rA hin
      obtain ⟨b0, b1, b2, b3⟩ := rdPl rS hin
      have hxq : Rq wr (atP A i) := (HQA.out _ (atP_mem (by have := HL.out.1; omega))).still HW.out
      have hyq : Rq wr (atP S i) := (HQS.out _ (atP_mem (by have := HL.out.2; omega))).still HW.out
      have hm := HM.out i hin
      obtain ⟨x, ex⟩ : ∃ x, atP A i = x := ⟨_, rfl⟩
      obtain ⟨y, ey⟩ : ∃ x, atP S i = x := ⟨_, rfl⟩
      rw [ex] at a0 a1 a2 a3 hxq hm
      rw [ey] at b0 b1 b2 b3 hyq hm
      have HC := hid (fun (z : Aft wr) => rsame_t x y hm z.u (hxq.ow.rd.still z.s) (hyq.ow.rd.still z.s))
      have q0 := Cl.cell a0
      have q1 := Cl.cell a1
      have q2 := Cl.cell a2
      have q3 := Cl.cell a3
      have s0 := Cl.cell b0
      have s1 := Cl.cell b1
      have s2 := Cl.cell b2
      have s3 := Cl.cell b3
      have hne := Aft.here wr
      clear ex ey hm hxq hyq rA rS a0 a1 a2 a3 b0 b1 b2 b3
      go_wp2_with fail
      refine region_all (by kernel_rfl) (by kernel_rfl) ?_
      repeat (go_big_quiet_step ((go_at_call 16; with_reducible exact Calls.cl (HC.out _))))
      refine wpQuiet_nil ?_
      intro w3 h3
      have HW3 := hid (HW.out.trans h3)
      clear h3 q0 q1 q2 q3 s0 s1 s2 s3 hne HC
      go_wp2_with fail
      go_roundw
      case rel => exact ⟨i + 1, by omega, by go_num, HW3⟩
      case measure => simp [intOf]; omega
    · have hge : ¬ (i : Int) < (n : Int) := by omega
      go_wp2_with fail
      go_ret
      exact ⟨rfl, HW.out⟩
/-- one byte stored -/
theorem Ow.setB {e : TypeId} {w : World} {b n cap : Nat} {bs : List UInt8} (h : Ow e w (some ⟨b, 0, none⟩) n cap bs) {i : Nat} (hi : i < n) (c : UInt8) : Ow e (w.setCell ⟨b, i, none⟩ (.int .u8 (c.toNat : Int))) (some ⟨b, 0, none⟩) n cap (bs.set i c) := by
  obtain ⟨_, _, cur, hg, hcs⟩ := h.row _ rfl
  have hl := h.rd.len
  have h1 := heap_setCell_same w b i cur e (.int .u8 (c.toNat : Int)) hg
  have hle := h.rd.le
  refine ⟨⟨by rw [List.length_set]; exact hl, hle, h.rd.max, h.rd.plain, h.rd.nil, fun a ha j hj => ?_⟩, fun a ha => ?_⟩
  · cases ha
    rw [List.length_set] at hj
    rw [cell_of_row _ _ _ _ _ _ h1]
    simp only [Nat.zero_add]
    have hb := h.rd.byte (k := j) hj
    rw [cell_of_row _ _ _ _ _ _ hg] at hb
    simp only [Nat.zero_add] at hb
    rw [Array.getElem?_setIfInBounds]
    by_cases hij : i = j
    · subst hij
      rw [if_pos rfl, if_pos (by omega)]
      simp
    · rw [if_neg hij, hb]
      simp [hij]
  · cases ha
    exact ⟨rfl, rfl, _, h1, by rw [Array.size_setIfInBounds]; exact hcs⟩
theorem Ow.frozen {e : TypeId} {w : World} {b n cap : Nat} {bs : List UInt8} (h : Ow e w (some ⟨b, 0, none⟩) n cap bs) (o : Nat) : w.frozen? ⟨b, o, none⟩ = false := by
  obtain ⟨_, _, cur, hg, hcs⟩ := h.row _ rfl
  exact frozen_of_row w b o _ _ hg
/-- the block of a parcel's bytes -/
def BlP (x : Pcl) (k : Nat) : Prop := ∃ a, x.ao = some a ∧ a.block = k
theorem Rd.one (w : World) (c : UInt8) : Rd (w.alloc (.cells #[.int .u8 (c.toNat : Int)] 5)) (some ⟨w.heap.size, 0, none⟩) 1 1 [c] := by
  exact (Ow.fresh (e := 5) w #[.int .u8 (c.toNat : Int)] 1 1 [c] rfl (Nat.le_refl _) (by unfold maxLen; omega) rfl (fun j h => by
    simp at h
    subst h
    rfl)).rd
set_option maxHeartbeats 2000000 in
theorem lspoil_any (x : Pcl) (c : UInt8) (w : World) (hx : Ow 5 w x.ao x.n x.cap x.bs) (hn : x.n < 140737488355328) : Calls Try.prog 18 #[pvl x, .int .u8 (c.toNat : Int)] w fun e w' => e = .returned (.tuple #[]) ∧ Fr (BlP x) w w' := by
  obtain ⟨W, eW⟩ : ∃ W, newPl w x = W := ⟨_, rfl⟩
  obtain ⟨g, eg⟩ : ∃ g, w.heap.size = g := ⟨_, rfl⟩
  have HS0 : Hid (Still w W) := hid (by rw [← eW]; exact Still.alloc _ _)
  have HP0 : Hid (Plb W g x) := hid (by rw [← eW, ← eg]; exact newPl_b w x)
  have HX0 := hid (hx.still HS0.out)
  have HXl := hid hx.lt
  have HG := hid eg
  have HNx : Hid (x.n + 1 ≤ 140737488355328) := hid hn
  obtain ⟨ao, n, cap, eao, en, ecap⟩ : ∃ ao n cap, x.ao = ao ∧ x.n = n ∧ x.cap = cap := ⟨_, _, _, rfl, rfl, rfl⟩
  have HE := hid (And.intro eao (And.intro en ecap))
  have hn' : n + 1 ≤ 140737488355328 := by rw [← en]; exact hn
  simp only [newPl] at eW
  clear hx hn eao en ecap
  go_enter Try.func18, Try.ntmps18
  go_wp2_with fail
  clear eW
  go_loopw [4] (fun u wr => ∃ (i : Nat) (bs : List UInt8), i ≤ n ∧ u = .int .i64 (i : Int) ∧ Hid (Fr (BlP x) W wr ∧ Plb wr g x ∧ Ow 5 wr ao n cap bs)) (fun u _ => n - (intOf u).toNat)
  case atStart =>
    refine ⟨0, x.bs, by omega, rfl, hid ⟨Fr.refl _ _, HP0.out, ?_⟩⟩
    have := HX0.out
    rw [HE.out.1, HE.out.2.1, HE.out.2.2] at this
    exact this
  case round =>
    obtain ⟨i, bs, hi, rfl, HH⟩ := hrel
    obtain ⟨c0, c1, c2, c3, cf⟩ := HH.out.2.1.cells
    rw [HE.out.1, HE.out.2.1, HE.out.2.2] at c3
    by_cases hin : i < n
    · have hlt : (i : Int) < (n : Int) := by omega
      obtain ⟨b, o, e⟩ := HH.out.2.2.rd.addr (by omega)
      subst e
      obtain ⟨ho, _, _⟩ := HH.out.2.2.row _ rfl
      simp at ho
      subst ho
      have d0 := HH.out.2.2.rd.byte (k := i) (by have := HH.out.2.2.rd.len; omega)
      rw [Nat.zero_add] at d0
      have df := HH.out.2.2.frozen
      have o2 := HH.out.2.2.setB hin c
      have f2 : Fr (fun k => k = b) wr (wr.setCell ⟨b, i, none⟩ (.int .u8 (c.toNat : Int))) := Fr.setCell (Fr.refl _ wr) _ _ (.inl rfl)
      have p2 : Plb (wr.setCell ⟨b, i, none⟩ (.int .u8 (c.toNat : Int))) g x := HH.out.2.1.keep f2 (fun e => by
        obtain ⟨_, _, cur, hg, _⟩ := HH.out.2.2.row _ rfl
        exact ty_ne HH.out.2.1 hg (by decide) e)
      have HN : Hid (Fr (BlP x) W (wr.setCell ⟨b, i, none⟩ (.int .u8 (c.toNat : Int))) ∧ Plb (wr.setCell ⟨b, i, none⟩ (.int .u8 (c.toNat : Int))) g x ∧ Ow 5 (wr.setCell ⟨b, i, none⟩ (.int .u8 (c.toNat : Int))) (some ⟨b, 0, none⟩) n cap (bs.set i c)) := hid ⟨Fr.trans HH.out.1 f2 (fun k hk e => ⟨_, HE.out.1, e.symm⟩), p2, o2⟩
      clear o2 f2 p2
      go_wp2_with fail
      go_roundw
      case rel => exact ⟨i + 1, bs.set i c, by omega, by go_num, HN⟩
      case measure => simp [intOf]; omega
    · have hge : ¬ (i : Int) < (n : Int) := by omega
      obtain rfl : i = n := by omega
      have A1 := Still.alloc wr (.cells #[.int .u8 (c.toNat : Int)] 5)
      have HR1 := hid (Rd.one wr c)
      have HO1 := hid (HH.out.2.2.still A1)
      have HA1 := hid A1
      obtain ⟨inf, hi1, hz, h1, h2⟩ := infoB
      have HI := hid (And.intro hi1 (And.intro hz (And.intro h1 h2)))
      have HNN : Hid (i + 1 ≤ 140737488355328) := hid hn'
      clear A1 hi1 hz h1 h2
      go_wp2_with (
        at_builtin
        refine wpList_app _ rfl _ _ _ rfl 5 inf rfl HI.out.1 HI.out.2.1 HI.out.2.2.1 HI.out.2.2.2 ao (some ⟨wr.heap.size, 0, none⟩) i cap 1 1 bs [c] rfl rfl HO1.out HR1.out HNN.out ?_
        intro ao' cap' w' ho' hf' hb' hnil
        obtain ⟨b, o, e⟩ := ho'.rd.addr (by omega)
        subst e
        obtain ⟨ho, _, _⟩ := ho'.row _ rfl
        simp at ho
        subst ho
        obtain ⟨z0, d0⟩ : ∃ z, w'.cell? ⟨b, 0 + i, none⟩ = some (.int .u8 z) := ⟨_, ho'.rd.byte (k := i) (by have := ho'.rd.len; omega)⟩
        rw [Nat.zero_add] at d0
        have df := ho'.frozen
        have hlt : (i : Int) < ((i + 1 : Nat) : Int) := by omega
        have HF : Hid (Fr (BlP x) w (w'.setCell ⟨b, i, none⟩ (.int .u8 (c.toNat : Int)))) := hid (by
          have h1 : Fr (BlP x) W (wr.alloc (.cells #[.int .u8 (c.toNat : Int)] 5)) := Fr.trans HH.out.1 HA1.out (fun _ _ e => e.elim)
          have h2 : Fr (BlP x) W w' := Fr.trans h1 hf' (fun k hk e => by
            obtain ⟨a, ha, hk2⟩ := e
            exact ⟨a, by rw [HE.out.1]; exact ha, hk2⟩)
          have h3 : Fr (BlP x) w w' := Fr.trans (Still.to HS0.out) h2 (fun _ _ e => e)
          refine Fr.setCell h3 _ _ ?_
          rcases hb' ⟨b, 0, none⟩ rfl with h | h
          · exact .inl ⟨⟨b, 0, none⟩, by rw [HE.out.1]; exact h, rfl⟩
          · exact .inr (Nat.le_trans h1.size (Nat.le_trans (Nat.le_of_eq rfl) h) |> Nat.le_trans HS0.out.size))
        clear ho' hf' hb' hnil)
      go_end0
      exact ⟨rfl, HF.out⟩
/-- a row of n + 2, whose head is told so far -/
def Hd17 (w : World) (g n k : Nat) (bs : List UInt8) : Prop := ∃ cur, w.heap[g]? = some (.cells cur 5 (0, 0)) ∧ cur.size = n + 2 ∧ ∀ j (h : j < bs.length), j < k → cur[j]? = some (.int .u8 (bs[j].toNat : Int))
set_option maxHeartbeats 2000000 in
theorem llent_any (ao : Option Addr) (n cap : Nat) (bs : List UInt8) (hn : n ≤ 140737488351232) (w : World) (hr : Rd w ao n cap bs) : Calls Try.prog 17 #[.slice ao n cap] w fun e w' => ∃ g, e = .returned (.slice (some ⟨g, 0, none⟩) (n + 2) (n + 2)) ∧ Ow 5 w' (some ⟨g, 0, none⟩) n (n + 2) bs ∧ w'.cell? ⟨g, n, none⟩ = some (.int .u8 200) ∧ Still w w' ∧ g = w.heap.size := by
  obtain ⟨inf, hi, hz, h1, h2⟩ := infoB
  have hmk : (Instr.makeSlice 33 (.int .i64 ((n : Int) + 2)) (.int .i64 ((n : Int) + 2))).run Try.prog w = .ok (.slice (some ⟨w.heap.size, 0, none⟩) (n + 2) (n + 2)) (w.alloc (.cells (madeCells #[.int .u8 0] (n + 2)) 5)) := by
    have := run_make (P := Try.prog) w 33 5 inf (.int .u8 0) Try.underlying33 hi hz .i64 .i64 ((n : Int) + 2) ((n : Int) + 2) (by omega) (Int.le_refl _) (by rw [h2]; omega) (by omega)
    rw [show ((n : Int) + 2).toNat = n + 2 by omega, h1, Nat.mul_one] at this
    exact this
  obtain ⟨g, eg⟩ : ∃ g, w.heap.size = g := ⟨_, rfl⟩
  obtain ⟨W, eW⟩ : ∃ W, w.alloc (.cells (madeCells #[.int .u8 0] (n + 2)) 5) = W := ⟨_, rfl⟩
  have HS0 : Hid (Still w W) := hid (by rw [← eW]; exact Still.alloc _ _)
  have HH0 : Hid (Hd17 W g n 0 bs) := hid ⟨madeCells #[.int .u8 0] (n + 2), by rw [← eW, ← eg]; exact heap_alloc_new w _, size_madeCells _ _, fun j _ h => by omega⟩
  rw [eW, eg] at hmk
  have HR := hid hr
  have HL := hid hr.len
  have HG := hid eg
  have hw1 : IntKind.i64.wrap ((n : Int) + 2) = (n : Int) + 2 := by rw [IntKind.wrap_i64]; omega
  have hw2 : wrap64 ((n : Int) + 2) = (n : Int) + 2 := by rw [← IntWalk.i64_left]; exact hw1
  clear hr hi hz h1 h2 eW
  go_enter Try.func17, Try.ntmps17
  go_wp2_with fail
  clear hmk eg
  go_loopw [4] (fun u wr => ∃ k : Nat, k ≤ n ∧ u = .int .i64 (k : Int) ∧ Hid (Still w wr ∧ Hd17 wr g n k bs)) (fun u _ => n - (intOf u).toNat)
  case atStart => exact ⟨0, by omega, rfl, hid ⟨HS0.out, HH0.out⟩⟩
  case round =>
    obtain ⟨k, hk, rfl, HH⟩ := hrel
    obtain ⟨cur, hg, hcs, hcu⟩ := HH.out.2
    have cf := fun o => frozen_of_row wr g o _ _ hg
    by_cases hin : k < n
    · have hlt : (k : Int) < (n : Int) := by omega
      have hlt2 : (k : Int) < (n : Int) + 2 := by omega
      have hlt3 : (k : Int) < ((n + 2 : Nat) : Int) := by omega
      have hr := HR.out.still HH.out.1
      obtain ⟨b, o, e⟩ := hr.addr (by omega)
      subst e
      have hkl : k < bs.length := by have := HL.out; omega
      have d0 := hr.byte hkl
      obtain ⟨z, ez⟩ : ∃ z : UInt8, bs[k] = z := ⟨_, rfl⟩
      rw [ez] at d0
      have c0 : wr.cell? ⟨g, k, none⟩ = some (cur[k]'(by omega)) := by rw [cell_of_row _ _ _ _ _ _ hg]; exact Array.getElem?_eq_getElem (by omega)
      obtain ⟨q, eq⟩ : ∃ q, cur[k]'(by omega) = q := ⟨_, rfl⟩
      rw [eq] at c0
      have HN : Hid (Still w (wr.setCell ⟨g, k, none⟩ (.int .u8 (z.toNat : Int))) ∧ Hd17 (wr.setCell ⟨g, k, none⟩ (.int .u8 (z.toNat : Int))) g n (k + 1) bs) := hid (by
        refine ⟨Fr.setCell HH.out.1 _ _ (.inr (Nat.le_of_eq HG.out)), _, heap_setCell_same wr g k cur _ _ hg, by rw [Array.size_setIfInBounds]; exact hcs, fun j hj hjk => ?_⟩
        rw [Array.getElem?_setIfInBounds]
        by_cases hkj : k = j
        · subst hkj
          rw [if_pos rfl, if_pos (by omega), ez]
        · rw [if_neg hkj]
          exact hcu j hj (by omega))
      clear hr ez eq hg hcs hcu
      go_wp2_with fail
      go_roundw
      case rel => exact ⟨k + 1, by omega, by go_num, HN⟩
      case measure => simp [intOf]; omega
    · have hge : ¬ (k : Int) < (n : Int) := by omega
      obtain rfl : k = n := by omega
      have hlt2 : (k : Int) < (k : Int) + 2 := by omega
      have hlt3 : (k : Int) < ((k + 2 : Nat) : Int) := by omega
      have c0 : wr.cell? ⟨g, k, none⟩ = some (cur[k]'(by omega)) := by rw [cell_of_row _ _ _ _ _ _ hg]; exact Array.getElem?_eq_getElem (by omega)
      obtain ⟨q, eq⟩ : ∃ q, cur[k]'(by omega) = q := ⟨_, rfl⟩
      rw [eq] at c0
      have h9 := heap_setCell_same wr g k cur _ (.int .u8 200) hg
      have HN : Hid (Ow 5 (wr.setCell ⟨g, k, none⟩ (.int .u8 200)) (some ⟨g, 0, none⟩) k (k + 2) bs ∧ (wr.setCell ⟨g, k, none⟩ (.int .u8 200)).cell? ⟨g, k, none⟩ = some (.int .u8 200) ∧ Still w (wr.setCell ⟨g, k, none⟩ (.int .u8 200))) := hid (by
        refine ⟨⟨⟨HL.out, by omega, by unfold maxLen; omega, fun a ha _ => (by cases ha; rfl), fun h => (by cases h), fun a ha j hj => ?_⟩, fun a ha => ?_⟩, ?_, Fr.setCell HH.out.1 _ _ (.inr (Nat.le_of_eq HG.out))⟩
        · cases ha
          rw [cell_of_row _ _ _ _ _ _ h9]
          have := HL.out
          simp only [Nat.zero_add]
          rw [Array.getElem?_setIfInBounds, if_neg (by omega)]
          exact hcu j hj (by omega)
        · cases ha
          exact ⟨rfl, rfl, _, h9, by rw [Array.size_setIfInBounds]; exact hcs⟩
        · rw [cell_of_row _ _ _ _ _ _ h9, Array.getElem?_setIfInBounds, if_pos rfl, if_pos (by omega)])
      clear eq hg hcs hcu h9
      go_wp2_with fail
      go_ret
      exact ⟨g, rfl, HN.out.1, HN.out.2.1, HN.out.2.2, HG.out.symm⟩
end Go.Proofs.Ytakdfckkljbghaa
