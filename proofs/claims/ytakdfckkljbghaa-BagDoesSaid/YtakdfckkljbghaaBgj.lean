/- The document's bag: At, Deliver, Double. -/
import Derived.Test.YtakdfckkljbghaaBgi
namespace Go.Proofs.Ytakdfckkljbghaa
open Go.RowKit
set_option maxRecDepth 100000
set_option linter.unusedVariables false

theorem Ydb.own {w : World} {B yb : Nat} {v : Value} {la : Int} {S : List Pcl} (h : Ydb w B yb v la S) : ∃ ao cap, v = .slice ao S.length cap := by
  obtain ⟨ao, cap, e, _⟩ := h.ow.slice
  exact ⟨ao, cap, e⟩
theorem rat_no (B yb : Nat) (v : Value) (la : Int) (S : List Pcl) (k : Int) (w : World) (hb : Ydb w B yb v la S) (hS : S.length ≤ 281474976710656) (hk : ∀ j, j < S.length → (atP S j).no ≠ k) : Calls Try.prog 30 #[.pointer (some ⟨yb, 0, none⟩), .int .i64 k] w fun e w' => e = .returned (.int .i64 (-1)) ∧ w' = w := by
  obtain ⟨ao, cap, ev⟩ := hb.own
  subst ev
  obtain ⟨c0, c1, cf⟩ := hb.cell
  have HB := hid hb
  have HK := hid hk
  clear hb hk
  go_enter Try.func30, Try.ntmps30
  go_wp2_with fail
  go_loopw [5] (fun u wr => ∃ j : Nat, j ≤ S.length ∧ u = .int .i64 (j : Int) ∧ wr = w) (fun u _ => S.length - (intOf u).toNat)
  case atStart => exact ⟨0, by omega, rfl, rfl⟩
  case round =>
    obtain ⟨j, hj, rfl, rfl⟩ := hrel
    by_cases hjn : j < S.length
    · have hlt : (j : Int) < (S.length : Int) := by omega
      obtain ⟨g, cap', e', _, _⟩ := HB.out.ow.head (by omega)
      cases e'
      obtain ⟨d0, _, _, _, _⟩ := owPl HB.out.ow hjn
      have hne : ((atP S j).no == k) = false := beq_eq_false_iff_ne.2 (HK.out j hjn)
      obtain ⟨x, ex⟩ : ∃ x, atP S j = x := ⟨_, rfl⟩
      rw [ex] at d0 hne
      clear ex
      go_wp2_with fail
      go_roundw
      case rel => exact ⟨j + 1, by omega, by go_num, by trivial⟩
      case measure => simp [intOf]; omega
    · have hge : ¬ (j : Int) < (S.length : Int) := by omega
      go_wp2_with fail
      go_ret
      exact ⟨rfl, rfl⟩
theorem rat_yes (B yb : Nat) (v : Value) (la : Int) (S : List Pcl) (k : Int) (i : Nat) (w : World) (hb : Ydb w B yb v la S) (hS : S.length ≤ 281474976710656) (hi : i < S.length) (hk : (atP S i).no = k) (hf : ∀ j, j < i → (atP S j).no ≠ k) : Calls Try.prog 30 #[.pointer (some ⟨yb, 0, none⟩), .int .i64 k] w fun e w' => e = .returned (.int .i64 (i : Int)) ∧ w' = w := by
  obtain ⟨g, cap, ev, _, _⟩ := hb.ow.head (by omega)
  subst ev
  obtain ⟨c0, c1, cf⟩ := hb.cell
  have HB := hid hb
  have HK := hid hf
  have HI := hid hk
  clear hb hk hf
  go_enter Try.func30, Try.ntmps30
  go_wp2_with fail
  go_loopw [5] (fun u wr => ∃ j : Nat, j ≤ i ∧ u = .int .i64 (j : Int) ∧ wr = w) (fun u _ => S.length - (intOf u).toNat)
  case atStart => exact ⟨0, by omega, rfl, rfl⟩
  case round =>
    obtain ⟨j, hj, rfl, rfl⟩ := hrel
    have hlt : (j : Int) < (S.length : Int) := by omega
    obtain ⟨d0, _, _, _, _⟩ := owPl HB.out.ow (i := j) (by omega)
    by_cases hji : j = i
    · subst hji
      have hne : ((atP S j).no == k) = true := beq_iff_eq.2 HI.out
      obtain ⟨x, ex⟩ : ∃ x, atP S j = x := ⟨_, rfl⟩
      rw [ex] at d0 hne
      clear ex
      go_wp2_with fail
      (first | rw [Exit.noGoto_ret] | skip)
      go_ret
      exact ⟨rfl, rfl⟩
    · have hne : ((atP S j).no == k) = false := beq_eq_false_iff_ne.2 (HK.out j (by omega))
      obtain ⟨x, ex⟩ : ∃ x, atP S j = x := ⟨_, rfl⟩
      rw [ex] at d0 hne
      clear ex
      go_wp2_with fail
      go_roundw
      case rel => exact ⟨j + 1, by omega, by go_num, by trivial⟩
      case measure => simp [intOf]; omega
set_option maxHeartbeats 1000000 in
theorem rdeliver_no (B yb : Nat) (v : Value) (la : Int) (S : List Pcl) (k : Int) (w : World) (hb : Ydb w B yb v la S) (hS : S.length ≤ 281474976710656) (hk : ∀ j, j < S.length → (atP S j).no ≠ k) : Calls Try.prog 20 #[.pointer (some ⟨yb, 0, none⟩), .int .i64 k] w fun e w' => e = .returned (.tuple #[pvl zPl, .int .i64 170]) ∧ Still w w' := by
  have A0 := Still.alloc w (.cells (pls zPl) 43)
  obtain ⟨W0, eW0⟩ : ∃ W, newPl w zPl = W := ⟨_, rfl⟩
  obtain ⟨g, eg⟩ : ∃ g, w.heap.size = g := ⟨_, rfl⟩
  have hs0 : Still w W0 := by rw [← eW0]; exact A0
  have p0 : Plb W0 g zPl := by rw [← eW0, ← eg]; exact newPl_b w zPl
  have HC := hid (rat_no B yb v la S k W0 (hb.still hs0) hS hk)
  have HQ := hid (p0.put zPl)
  have HS : Hid (Still w (setPl W0 g zPl)) := hid (setPl_fr hs0 _ _ (.inr (by omega)))
  obtain ⟨d0, d1, d2, d3, df⟩ := p0.cells
  simp only [newPl, zPl] at eW0
  simp only [zPl] at d0 d1 d2 d3
  clear A0 hb hs0 p0 hk
  go_enter Try.func20, Try.ntmps20
  go_wp2_with fail
  refine HC.out.mono ?_
  rintro e w2 ⟨he, hw⟩
  rw [he, hw]
  clear he hw w2 HC eW0
  go_wp2_with fail
  refine bodyPost_ret (HQ.out.rest rfl _ _ rfl rfl) rfl ?_
  exact ⟨rfl, HS.out⟩
/-- one struck out -/
def outP (S : List Pcl) (i : Nat) : List Pcl := S.take i ++ S.drop (i + 1)
theorem outP_mem {S : List Pcl} {i : Nat} {x : Pcl} (h : x ∈ outP S i) : x ∈ S := by
  rcases List.mem_append.1 h with h | h
  · exact List.mem_of_mem_take h
  · exact List.mem_of_mem_drop h
theorem outP_len {S : List Pcl} {i : Nat} (hi : i < S.length) : (outP S i).length + 1 = S.length := by
  simp [outP]; omega
set_option maxHeartbeats 4000000 in
theorem rdeliver_yes (B yb : Nat) (v : Value) (la : Int) (S : List Pcl) (k : Int) (i : Nat) (w : World) (hb : Ydb w B yb v la S) (hS : S.length * 48 ≤ 140737488355328) (hi : i < S.length) (hk : (atP S i).no = k) (hf : ∀ j, j < i → (atP S j).no ≠ k) : Calls Try.prog 20 #[.pointer (some ⟨yb, 0, none⟩), .int .i64 k] w fun e w' => e = .returned (.tuple #[pvl (atP S i), .int .i64 0]) ∧ ∃ v', Ydb w' B yb v' la (outP S i) ∧ Rq w' (atP S i) ∧ Fr (fun j => j = yb) w w' ∧ ∀ j, v'.ownBlock = some j → w.heap.size ≤ j := by
  obtain ⟨gv, cap, ev, _, _⟩ := hb.ow.head (by omega)
  subst ev
  have hS2 : S.length ≤ 281474976710656 := by omega
  have hyl := block_lt hb.bk
  have hBl : B ≤ w.heap.size := by have := hb.lo; omega
  have A0 := Still.alloc w (.cells (pls zPl) 43)
  obtain ⟨W0, eW0⟩ : ∃ W, newPl w zPl = W := ⟨_, rfl⟩
  obtain ⟨g, eg⟩ : ∃ g, w.heap.size = g := ⟨_, rfl⟩
  have hs0 : Still w W0 := by rw [← eW0]; exact A0
  have p0 : Plb W0 g zPl := by rw [← eW0, ← eg]; exact newPl_b w zPl
  have hz0 : W0.heap.size = g + 1 := by rw [← eW0, ← eg]; exact size_alloc _ _
  have hb0 := hb.still hs0
  have HC := hid (rat_yes B yb _ la S k i W0 hb0 hS2 hi hk hf)
  obtain ⟨c0, c1, cf⟩ := hb0.cell
  obtain ⟨s0, s1, s2, s3, _⟩ := owPl hb0.ow hi
  obtain ⟨x, ex⟩ : ∃ x, atP S i = x := ⟨_, rfl⟩
  rw [ex] at s0 s1 s2 s3
  have HX := hid (hb.rd _ (atP_mem hi))
  rw [ex] at HX
  rw [ex]
  obtain ⟨W1, eW1⟩ : ∃ W, newPl W0 zPl = W := ⟨_, rfl⟩
  have A1 : Still W0 W1 := by rw [← eW1]; exact Still.alloc _ _
  have p1 : Plb W1 (g + 1) zPl := by rw [← eW1, ← hz0]; exact newPl_b W0 zPl
  have p2 := p1.put x
  obtain ⟨W2, eW2⟩ : ∃ W, setPl W1 (g + 1) x = W := ⟨_, rfl⟩
  rw [eW2] at p2
  have f2 : Still W0 W2 := by rw [← eW2]; exact setPl_fr A1 _ _ (.inr (by omega))
  have HP2 := hid p2
  have HQ2 : Hid (Plb W2 g zPl) := hid (p0.still f2)
  have HB2 := hid (hb0.still f2)
  have HS2 : Hid (Still w W2) := hid (hs0.trans f2)
  have hlt : (i : Int) < (S.length : Int) := by omega
  obtain ⟨x0, x1, x2, x3, xf⟩ := p1.cells
  have hcap : S.length ≤ cap := (SrG.own hb.ow hS2).le
  have hcut1 := fun W => run_uptoG (P := Try.prog) (t := 27) (e := 43) Try.underlying27 (by obtain ⟨i, h, _⟩ := infoPl; exact ⟨i, h⟩) W (some ⟨gv, 0, none⟩) S.length cap (i : Int) (by omega) (by omega)
  rw [Int.toNat_natCast] at hcut1
  have hcut2 := fun W => run_fromG (P := Try.prog) (t := 27) (e := 43) (k := 4) Try.underlying27 (by obtain ⟨i, h, _, h2, _⟩ := infoPl; exact ⟨i, h, h2⟩) W (some ⟨gv, 0, none⟩) S.length cap (i + 1) (by omega)
  rw [show ((i + 1 : Nat) : Int) = (i : Int) + 1 by omega] at hcut2
  obtain ⟨aoc, eaoc⟩ : ∃ a, cutG 4 (some ⟨gv, 0, none⟩) cap (i + 1) = a := ⟨_, rfl⟩
  rw [eaoc] at hcut2
  obtain ⟨m2, em2⟩ : ∃ m, S.length - (i + 1) = m := ⟨_, rfl⟩
  obtain ⟨cp2, ecp2⟩ : ∃ m, cap - (i + 1) = m := ⟨_, rfl⟩
  rw [em2, ecp2] at hcut2
  have him : i + m2 ≤ S.length := by rw [← em2]; exact (by have := hi; omega)
  have HSr := hid (SrG.own HB2.out.ow hS2)
  have HT1 : Hid (∀ u, Still W2 u → SrG KPl u (some ⟨gv, 0, none⟩) cap (S.take i)) := hid (fun u hu => (HSr.out.take (Nat.le_of_lt hi)).still hu)
  have HT2 : Hid (∀ u, Still W2 u → SrG KPl u aoc cp2 (S.drop (i + 1))) := hid (fun u hu => by
    have := (HSr.out.drop (i := i + 1) hi).still hu
    rw [ecp2] at this
    rw [← eaoc]
    exact this)
  have HTl : Hid ((S.take i).length = i) := hid (List.length_take_of_le (Nat.le_of_lt hi))
  have HDl : Hid ((S.drop (i + 1)).length = m2) := hid (by rw [List.length_drop]; exact em2)
  have HL1 : Hid ((([] : List Pcl).length + (S.take i).length) * 48 ≤ 140737488355328 ∧ ([] : List Pcl).length + (S.take i).length ≤ 281474976710656) := hid (by
    rw [HTl.out, List.length_nil, Nat.zero_add]
    exact ⟨Nat.le_trans (Nat.mul_le_mul_right 48 (Nat.le_of_lt hi)) hS, Nat.le_trans (Nat.le_of_lt hi) hS2⟩)
  have HL2 : Hid (((S.take i).length + (S.drop (i + 1)).length) * 48 ≤ 140737488355328 ∧ (S.take i).length + (S.drop (i + 1)).length ≤ 281474976710656) := hid (by
    rw [HTl.out, HDl.out]
    exact ⟨Nat.le_trans (Nat.mul_le_mul_right 48 him) hS, Nat.le_trans him hS2⟩)
  have HG : Hid (w.heap.size = g) := hid eg
  have HZP : Hid ((Value.agg (KPl.f KPl.d).toArray).cells.size = KPl.k) := hid rfl
  have c0' : W2.cell? ⟨yb, 0, none⟩ = some (.slice (some ⟨gv, 0, none⟩) S.length cap) := HB2.out.cell.1
  have hyg : yb < g := by omega
  have hw1 : IntKind.i64.wrap ((i : Int) + 1) = (i : Int) + 1 := by rw [IntKind.wrap_i64]; omega
  have hw2 : wrap64 ((i : Int) + 1) = (i : Int) + 1 := by rw [← IntWalk.i64_left]; exact hw1
  simp only [newPl, setPl, zPl] at eW0 eW1 eW2
  simp only [zPl] at x0 x1 x2 x3
  clear A0 A1 hb hb0 hs0 p0 p1 p2 f2 hk hf ex em2 ecp2 eaoc hcap
  go_enter Try.func20, Try.ntmps20
  go_wp2_with fail
  refine HC.out.mono ?_
  rintro e w2 ⟨he, hw⟩
  rw [he, hw]
  clear he hw w2 HC
  go_upto_region 5 with fail
  clear eW0 eW1 eW2 hz0 eg c0 c1 cf s0 s1 s2 s3 x0 x1 x2 x3 xf
  have c0 := c0'
  clear c0'
  go_wp2_with (first
    | (at_builtin
       refine wpList_appMG KPl _ rfl _ _ 27 rfl Try.underlying27 48 (.agg (KPl.f KPl.d).toArray) HZP.out infoPl W2.heap.size (.slice a1 i p1) (S.take i) (S.drop (i + 1)) aoc m2 cp2 rfl rfl HDl.out HO1.out.1 (HT2.out _ HO1.out.2) HL2.out.1 HL2.out.2 HO1.out.2.size ?_
       intro v2 w2 ho2 hf2
       have hs2 : Still W2 w2 := Fr.trans HO1.out.2 hf2 (fun k hk e => by have := (HO1.out.1.block e).1; omega)
       obtain ⟨a2, p2, e2, _⟩ := ho2.slice
       obtain ⟨n2, en2⟩ : ∃ n, (S.take i ++ S.drop (i + 1)).length = n := ⟨_, rfl⟩
       rw [en2] at e2
       subst e2
       have hb5 := hs2.kept_still HB2.out.bk
       have c0 : w2.cell? ⟨yb, 0, none⟩ = some (.slice (some ⟨gv, 0, none⟩) S.length cap) := by rw [cell_of_row _ _ _ _ _ _ hb5]; rfl
       have cf := fun o => frozen_of_row w2 yb o _ _ hb5
       have hbo : ∀ j, (Value.slice a2 n2 p2).ownBlock = some j → w.heap.size ≤ j := fun j hj => Nat.le_trans HS2.out.size (ho2.block hj).1
       have HBO := hid hbo
       have hy3 : Ydb (w2.setCell ⟨yb, 0, none⟩ (.slice a2 n2 p2)) B yb (.slice a2 n2 p2) la (outP S i) := Ydb.put hb5 HB2.out.lo (OwG.less ho2 (Nat.le_trans hBl HS2.out.size)) (fun y hy => (HB2.out.rd y (outP_mem hy)).still hs2)
       have f3 : Fr (fun j => j = yb) w2 (w2.setCell ⟨yb, 0, none⟩ (.slice a2 n2 p2)) := Fr.setCell (Fr.refl _ w2) _ _ (.inl rfl)
       have q3 : Plb (w2.setCell ⟨yb, 0, none⟩ (.slice a2 n2 p2)) (g + 1) x := (HP2.out.still hs2).keep f3 (by omega)
       have r3 : Plb (w2.setCell ⟨yb, 0, none⟩ (.slice a2 n2 p2)) g zPl := (HQ2.out.still hs2).keep f3 (by omega)
       have x3 : Rq (w2.setCell ⟨yb, 0, none⟩ (.slice a2 n2 p2)) x := ((HX.out.still HS2.out).still hs2).keep f3 (fun j hj => by subst hj; exact Nbt.of hb5 (by decide))
       have g3 : Fr (fun j => j = yb) w (w2.setCell ⟨yb, 0, none⟩ (.slice a2 n2 p2)) := Fr.trans (Still.to (HS2.out.trans hs2)) f3 (fun _ _ e => e)
       obtain ⟨W3, eW3⟩ : ∃ W, w2.setCell ⟨yb, 0, none⟩ (.slice a2 n2 p2) = W := ⟨_, rfl⟩
       rw [eW3] at hy3 q3 r3 x3 g3
       have f4 : Fr (fun j => j = g) W3 (setPl W3 g x) := setPl_fr (Fr.refl _ W3) _ _ (.inl rfl)
       have nb4 : ∀ j, j = g → Nbt W3 j := fun j hj => by subst hj; exact Nbt.of r3 (by decide)
       have HY4 : Hid (Ydb (setPl W3 g x) B yb (.slice a2 n2 p2) la (outP S i)) := hid (hy3.keep f4 (fun e => by omega) (fun j hj e => by
         have h1 := (ho2.block e).1
         have h2 := HQ2.out.lt
         omega) (fun y hy a ha e => by
         obtain ⟨_, _, cur, hg, _⟩ := (hy3.rd y hy).ow.row a ha
         exact nb4 _ e cur hg))
       have HX4 : Hid (Rq (setPl W3 g x) x) := hid (x3.keep f4 nb4)
       have HF4 : Hid (Fr (fun j => j = yb) w (setPl W3 g x)) := hid (setPl_fr g3 _ _ (.inr (Nat.le_of_eq HG.out)))
       have HP4 := hid (r3.put x)
       obtain ⟨y0, y1, y2, y3, yf⟩ := q3.cells
       obtain ⟨z0, z1, z2, z3, zf⟩ := r3.cells
       simp only [zPl] at z0 z1 z2 z3
       clear ho2 hf2 hs2 hb5 HO1 hbo hy3 f3 q3 r3 x3 g3 f4 nb4 en2)
    | (at_builtin
       refine wpList_appMG KPl _ rfl _ _ 27 rfl Try.underlying27 48 (.agg (KPl.f KPl.d).toArray) HZP.out infoPl W2.heap.size (.slice none 0 0) [] (S.take i) (some ⟨gv, 0, none⟩) i cap rfl rfl HTl.out (OwG.nil _ _) (HT1.out _ (Fr.refl _ _)) HL1.out.1 HL1.out.2 (Nat.le_refl _) ?_
       intro v1 w1 ho1 hf1
       rw [List.nil_append] at ho1
       obtain ⟨a1, p1, e1, _⟩ := ho1.slice
       rw [HTl.out] at e1
       subst e1
       have hs1 : Still W2 w1 := hf1.mono (fun k _ e => by cases e)
       have HO1 : Hid (OwG KPl 43 w1 W2.heap.size (.slice a1 i p1) (S.take i) ∧ Still W2 w1) := hid ⟨ho1, hs1⟩
       have c0 : w1.cell? ⟨yb, 0, none⟩ = some (.slice (some ⟨gv, 0, none⟩) S.length cap) := (HB2.out.still hs1).cell.1
       clear ho1 hf1 hs1))
  refine bodyPost_ret (HP4.out.rest rfl _ _ rfl rfl) rfl ?_
  exact ⟨rfl, _, HY4.out, HX4.out, HF4.out, HBO.out⟩
end Go.Proofs.Ytakdfckkljbghaa
