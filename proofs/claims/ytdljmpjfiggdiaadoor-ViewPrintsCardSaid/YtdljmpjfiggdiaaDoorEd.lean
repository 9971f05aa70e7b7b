/- The document's Ahead and Ranking. -/
import Derived.Test.YtdljmpjfiggdiaaDoorEc
namespace Go.Proofs.YtdljmpjfiggdiaaDoor
open Go.RowKit
open Ea
set_option maxRecDepth 100000

set_option maxHeartbeats 1000000 in
theorem rahead_any (L : List Scr) (ao : Option Addr) (n cap i k : Nat) (hi : i < n) (hk : k < n) (w : World) (hr : RdG KC w ao n L) : Calls Tryd.prog 52 #[.slice ao n cap, .int .i64 (i : Int), .int .i64 (k : Int)] w fun e w' => e = .returned (.bool (ahd L i k)) ∧ Still w w' := by
  have h47 : n ≤ 281474976710656 := hr.2.1
  obtain ⟨B, o, rfl⟩ := hr.at (by omega)
  obtain ⟨c0, c1, c2, c3⟩ := rdC hr hi
  have hr1 := hr.still (Still.alloc w (.cells (ccs (sc L i)) 54))
  obtain ⟨d0, d1, d2, d3⟩ := rdC hr1 hk
  have A1 := Still.alloc (newC w (sc L i)) (.cells (ccs (sc L k)) 54)
  have p := (newC_cb w (sc L i)).still A1
  have q := newC_cb (newC w (sc L i)) (sc L k)
  simp only [size_alloc] at q
  have HS := hid ((Still.alloc w (.cells (ccs (sc L i)) 54)).trans A1)
  have HU : Hid (ahd L i k = if (sc L i).p ≠ (sc L k).p then decide ((sc L i).p > (sc L k).p) else if (sc L i).o ≠ (sc L k).o then decide ((sc L i).o < (sc L k).o) else if (sc L i).h ≠ (sc L k).h then decide ((sc L i).h > (sc L k).h) else decide (i < k)) := hid rfl
  obtain ⟨⟨ap, ah, ao', ak⟩, ea⟩ : ∃ x, sc L i = x := ⟨_, rfl⟩
  obtain ⟨⟨bp, bh, bo', bk⟩, eb⟩ : ∃ x, sc L k = x := ⟨_, rfl⟩
  rw [ea, eb] at HU
  rw [ea] at c0 c1 c2 c3 d0 d1 d2 d3 p q HS
  rw [eb] at d0 d1 d2 d3 p q HS
  obtain ⟨e0, e1, e2, e3, ef⟩ := p.cells
  obtain ⟨f0, f1, f2, f3, ff⟩ := q.cells
  simp only at c0 c1 c2 c3 d0 d1 d2 d3 e0 e1 e2 e3 f0 f1 f2 f3 HU
  have hi' : (i : Int) < (n : Int) := by omega
  have hk' : (k : Int) < (n : Int) := by omega
  clear ea eb hr hr1 A1 p q
  by_cases z0 : ap = bp
  · have z0' : (ap != bp) = false := by simpa using z0
    by_cases z1 : ao' = bo'
    · have z1' : (ao' != bo') = false := by simpa using z1
      by_cases z2 : ah = bh
      · have z2' : (ah != bh) = false := by simpa using z2
        rw [if_neg (by simpa using z0), if_neg (by simpa using z1), if_neg (by simpa using z2)] at HU
        rw [HU.out]
        clear z0 z1 z2 HU
        go_enter Tryd.func52, Tryd.ntmps52
        go_wp2_with fail
        go_ret
        exact ⟨by simp, HS.out⟩
      · have z2' : (ah != bh) = true := by simpa using z2
        rw [if_neg (by simpa using z0), if_neg (by simpa using z1), if_pos (by simpa using z2)] at HU
        rw [HU.out]
        clear z0 z1 z2 HU
        go_enter Tryd.func52, Tryd.ntmps52
        go_wp2_with fail
        go_ret
        exact ⟨by simp, HS.out⟩
    · have z1' : (ao' != bo') = true := by simpa using z1
      rw [if_neg (by simpa using z0), if_pos (by simpa using z1)] at HU
      rw [HU.out]
      clear z0 z1 HU
      go_enter Tryd.func52, Tryd.ntmps52
      go_wp2_with fail
      go_ret
      exact ⟨by simp, HS.out⟩
  · have z0' : (ap != bp) = true := by simpa using z0
    rw [if_pos (by simpa using z0)] at HU
    rw [HU.out]
    clear z0 HU
    go_enter Tryd.func52, Tryd.ntmps52
    go_wp2_with fail
    go_ret
    exact ⟨by simp, HS.out⟩
/-- of the first j those that are ahead of i -/
def cntJ (L : List Scr) (i j : Nat) : Nat := (List.range j).countP fun k => ahd L k i
theorem cntJ_step (L : List Scr) (i j : Nat) : cntJ L i (j + 1) = cntJ L i j + (if ahd L j i then 1 else 0) := by
  unfold cntJ
  rw [List.range_succ, List.countP_append]
  simp [List.countP_cons]
theorem cntJ_le (L : List Scr) (i j : Nat) : cntJ L i j ≤ j := by
  unfold cntJ
  have : ((List.range j).countP fun k => ahd L k i) ≤ (List.range j).length := List.countP_le_length
  simpa using this
theorem rnkF_step (L : List Scr) (i : Nat) : rnkF L (i + 1) = (rnkF L i).set (cntC L i) (i : Int) := rfl
set_option maxHeartbeats 4000000 in
theorem rrank_in (L : List Scr) (ao : Option Addr) (n cap : Nat) (h6 : n ≤ 6) (w : World) (hr : RdG KC w ao n L) : Calls Tryd.prog 28 #[.slice ao n cap] w fun e w' => ∃ bo m cp, e = .returned (.tuple #[.slice bo m cp, .int .i64 (errR L)]) ∧ OwI 3 w' bo m cp (rnkA L) ∧ Still w w' ∧ ∀ a, bo = some a → w.heap.size ≤ a.block := by
  have HR := hid hr
  have HL := hid hr.1
  have h6' : decide ((6 : Int) < (n : Int)) = false := by simp; omega
  have hmk : ∀ W : World, (Instr.makeSlice 69 (.int .i64 (n : Int)) (.int .i64 (n : Int))).run Tryd.prog W = .ok (.slice (some ⟨W.heap.size, 0, none⟩) n n) (W.alloc (.cells (madeCells #[.int .i64 0] n) 3)) := fun W =>
    run_make_row' (P := Tryd.prog) 69 3 (.int .i64 0) 8 Tryd.underlying69 info_int rfl .i64 .i64 n (by omega) (by omega) W
  have HNew := hid (fun (W : World) => (OwI.fresh W (madeCells #[.int .i64 0] n) n n (List.replicate n 0) (by simp) (Nat.le_refl _) (by unfold maxLen; omega) (by rw [size_madeCells]) (fun j hj => by
      simp at hj
      simp [madeCells, hj]
      rw [Nat.mod_one]; rfl) : OwI 3 (W.alloc (.cells (madeCells #[.int .i64 0] n) 3)) (some ⟨W.heap.size, 0, none⟩) n n (List.replicate n 0)))
  obtain ⟨CS, hCS⟩ : ∃ CS, CS = madeCells #[.int .i64 0] n := ⟨_, rfl⟩
  rw [← hCS] at HNew
  simp only [← hCS] at hmk
  clear hCS hr
  go_enter Tryd.func28, Tryd.ntmps28
  go_wp2_with fail
  go_loopw [4] (fun u wr => ∃ k : Nat, k ≤ n ∧ u = .int .i64 (k : Int) ∧ Hid (∀ i, i < k → MayC (sc L i)) ∧ Still w wr) (fun u _ => n - (intOf u).toNat)
  case atStart => exact ⟨0, by omega, rfl, hid (fun i hi => by omega), Fr.refl _ _⟩
  case round =>
    obtain ⟨k, hk, rfl, HK, hs⟩ := hrel
    by_cases hkn : k < n
    · have hlt : (k : Int) < (n : Int) := by omega
      have hr1 := HR.out.still hs
      obtain ⟨B, o, rfl⟩ := hr1.at (by omega)
      obtain ⟨c0, c1, c2, c3⟩ := rdC hr1 hkn
      have HNo := hid (show ¬ MayC (sc L k) → errR L = 120 ∧ rnkA L = [] from fun h => by
        have e : rnkE L = false := by
          cases e : rnkE L with
          | false => rfl
          | true => exact absurd ((rnkE_iff.1 e).2 k (by have := HL.out; omega)) h
        exact ⟨by unfold errR; rw [e]; rfl, by unfold rnkA; rw [e]; rfl⟩)
      have HC := hid (fun u => rchk12_any (sc L k) u)
      have HS1 := hid hs
      by_cases hm : MayC (sc L k)
      · rw [chkC_yes hm] at HC
        have HE := hid (show ∀ i, i < k + 1 → MayC (sc L i) from fun i hi => by
          by_cases e : i = k
          · subst e; exact hm
          · exact HK.out i (by omega))
        obtain ⟨x, ex⟩ : ∃ x, sc L k = x := ⟨_, rfl⟩
        rw [ex] at c0 c1 c2 c3 HC
        clear hs hr1 hm HNo HK ex
        go_wp2_with fail
        refine (HC.out _).mono ?_
        rintro e w1 ⟨rfl, h1⟩
        have HS2 := hid (HS1.out.trans h1)
        clear h1 HS1 c0 c1 c2 c3
        go_wp2_with fail
        go_roundw
        case rel => exact ⟨k + 1, by omega, by go_num, HE, HS2.out⟩
        case measure => simp [intOf]; omega
      · rw [chkC_no hm] at HC
        have HE := hid (HNo.out hm)
        obtain ⟨x, ex⟩ : ∃ x, sc L k = x := ⟨_, rfl⟩
        rw [ex] at c0 c1 c2 c3 HC
        clear hs hr1 hm HNo HK ex
        go_wp2_with fail
        refine (HC.out _).mono ?_
        rintro e w1 ⟨rfl, h1⟩
        have HS2 := hid (HS1.out.trans h1)
        clear h1 HS1 c0 c1 c2 c3
        go_wp2_with fail
        (first | rw [Exit.noGoto_ret] | skip)
        go_ret2
        refine ⟨none, 0, 0, by rw [HE.out.1]; rfl, ?_, HS2.out, fun a h => by cases h⟩
        rw [HE.out.2]
        exact OwI.empty _ _
    · have hge : ¬ (k : Int) < (n : Int) := by omega
      obtain rfl : k = n := by omega
      have HE : Hid (errR L = 0 ∧ rnkA L = rnk L) := hid (by
        have e : rnkE L = true := rnkE_iff.2 ⟨by have := HL.out; omega, fun i hi => HK.out i (by have := HL.out; omega)⟩
        exact ⟨by unfold errR; rw [e]; rfl, by unfold rnkA; rw [e]; rfl⟩)
      have HS1 := hid hs
      have HA := hid (Still.alloc wr (.cells CS 3))
      have HO := hid (HNew.out wr)
      have HG := hid (show w.heap.size ≤ wr.heap.size from hs.size)
      obtain ⟨g, eg⟩ : ∃ g, wr.heap.size = g := ⟨_, rfl⟩
      rw [eg] at HO HG
      rw [show List.replicate k 0 = rnkF L 0 by unfold rnkF; rw [HL.out]] at HO
      clear hs hge hk hkn HK HNew
      go_wp2_with fail
      (try rw [eg])
      clear hmk eg
      go_loopw [7] (fun u wx => ∃ i : Nat, i ≤ k ∧ u = .int .i64 (i : Int) ∧ OwI 3 wx (some ⟨g, 0, none⟩) k k (rnkF L i) ∧ Still w wx) (fun u _ => k - (intOf u).toNat)
      case atStart => exact ⟨0, by omega, rfl, HO.out, HS1.out.trans HA.out⟩
      case round =>
        clear HO HS1 HA
        obtain ⟨i, hi, rfl, ho, hs⟩ := hrel
        by_cases hik : i < k
        · have hlt : (i : Int) < (k : Int) := by omega
          have HO1 := hid ho
          have HS1 := hid hs
          clear ho hs
          go_wp2_with fail
          go_loopw [8, 9] (fun v u wy => ∃ j : Nat, j ≤ k ∧ v = .int .i64 ((cntJ L i j : Nat) : Int) ∧ u = .int .i64 (j : Int) ∧ Still wr wy) (fun _ u _ => k - (intOf u).toNat)
          case atStart => exact ⟨0, by omega, rfl, rfl, Fr.refl _ _⟩
          case round =>
            obtain ⟨j, hj, rfl, rfl, hs2⟩ := hrel
            by_cases hjk : j < k
            · have hlt2 : (j : Int) < (k : Int) := by omega
              have HC := hid (rahead_any L ao k cap j i hjk hik _ (HR.out.still (HS1.out.trans hs2)))
              have HS2 := hid hs2
              have HT := hid (cntJ_step L i j)
              have hcl := cntJ_le L i j
              obtain ⟨b, eb⟩ : ∃ b, ahd L j i = b := ⟨_, rfl⟩
              obtain ⟨c, ec⟩ : ∃ c, cntJ L i j = c := ⟨_, rfl⟩
              rw [eb] at HC HT
              rw [ec] at HT hcl ⊢
              clear hs2 eb ec
              go_wp2_with fail
              refine HC.out.mono ?_
              rintro e w2 ⟨rfl, h2⟩
              have HS3 := hid (HS2.out.trans h2)
              clear h2 HS2 HC
              cases b with
              | true =>
                go_wp2_with fail
                go_roundw
                case rel => exact ⟨j + 1, by omega, by rw [HT.out]; go_num, by go_num, HS3.out⟩
                case measure => simp [intOf]; omega
              | false =>
                go_wp2_with fail
                go_roundw
                case rel => exact ⟨j + 1, by omega, by rw [HT.out]; go_num, by go_num, HS3.out⟩
                case measure => simp [intOf]; omega
            · have hge : ¬ (j : Int) < (k : Int) := by omega
              obtain rfl : j = k := by omega
              have ecn : cntJ L i j = cntC L i := by unfold cntJ cntC; rw [HL.out]
              have hcl : cntC L i < j := by have := cntC_lt (L := L) (i := i) (by have := HL.out; omega); have := HL.out; omega
              have ho2 := HO1.out.still hs2
              rw [ecn]
              have HT := hid (rnkF_step L i)
              obtain ⟨c, ec⟩ : ∃ c, cntC L i = c := ⟨_, rfl⟩
              rw [ec] at hcl HT ⊢
              obtain ⟨⟨v0, hv⟩, hfz⟩ := ho2.cellAt hcl
              have HR2 := hid (And.intro (ho2.set (x := (i : Int)) hcl) ((HS1.out.trans hs2).setCell ⟨g, c, none⟩ (.int .i64 (i : Int)) (.inr HG.out)))
              have hcl' : (c : Int) < (j : Int) := by omega
              clear ho2 hs2 ec ecn hge HO1
              go_wp2_with fail
              go_roundw
              case rel => exact ⟨i + 1, by omega, by go_num, by rw [HT.out]; exact HR2.out.1, HR2.out.2⟩
              case measure => simp [intOf]; omega
        · have hge : ¬ (i : Int) < (k : Int) := by omega
          obtain rfl : i = k := by omega
          have HO1 := hid (And.intro ho hs)
          clear ho hs hge
          go_wp2_with fail
          go_ret2
          refine ⟨_, _, _, by rw [HE.out.1]; rfl, ?_, HO1.out.2, fun a h => by cases h; exact HG.out⟩
          rw [HE.out.2, rnk, HL.out]
          exact HO1.out.1
theorem rrank_any (L : List Scr) (ao : Option Addr) (n cap : Nat) (w : World) (hr : RdG KC w ao n L) : Calls Tryd.prog 28 #[.slice ao n cap] w fun e w' => ∃ bo m cp, e = .returned (.tuple #[.slice bo m cp, .int .i64 (errR L)]) ∧ OwI 3 w' bo m cp (rnkA L) ∧ Still w w' ∧ ∀ a, bo = some a → w.heap.size ≤ a.block := by
  by_cases h6 : n ≤ 6
  · exact rrank_in L ao n cap h6 w hr
  · have e : rnkE L = false := by
      cases e : rnkE L with
      | false => rfl
      | true => have := (rnkE_iff.1 e).1; have := hr.1; omega
    have HE : Hid (errR L = 120 ∧ rnkA L = []) := hid ⟨by unfold errR; rw [e]; rfl, by unfold rnkA; rw [e]; rfl⟩
    have h6' : decide ((6 : Int) < (n : Int)) = true := by simp; omega
    clear e hr h6
    go_enter Tryd.func28, Tryd.ntmps28
    go_wp2_with fail
    go_ret2
    refine ⟨none, 0, 0, by rw [HE.out.1]; rfl, ?_, Fr.refl _ _, fun a h => by cases h⟩
    rw [HE.out.2]
    exact OwI.empty _ _
end Go.Proofs.YtdljmpjfiggdiaaDoor
