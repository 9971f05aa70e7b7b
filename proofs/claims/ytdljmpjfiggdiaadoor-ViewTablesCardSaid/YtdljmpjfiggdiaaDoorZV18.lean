/- Parts of the proof, laid end to end. -/
import Derived.Test.YtdljmpjfiggdiaaDoorZV12
import Derived.Deep.DeepCutAuto
import Derived.Deep.RegionHeld3
import Derived.BigRegion
import Derived.Test.YtdljmpjfiggdiaaDoorZV08
namespace Go.Proofs.YtdljmpjfiggdiaaDoor
open Go.RowKit
open Ea
set_option maxRecDepth 100000
theorem rchk12_any (x : Scr) (w : World) : Calls Tryd.prog 51 #[cv x] w fun e w' => e = .returned (.int .i64 (chkC x)) /\ Still w w' := by
 have p := newC_cb w x
 have HS := hid (Still.alloc w (.cells (ccs x) 54))
 obtain ⟨c0, c1, c2, c3, cf⟩ := p.cells
 clear p
 by_cases z0 : x.p < -2147483647
 ·have HE : Hid (chkC x = 120) := hid (chkC_no (fun h => by have := h.1; have := h.2.1; have := h.2.2.1; have := h.2.2.2; omega))
  go_enter Tryd.func51, Tryd.ntmps51
  go_wp2_with fail
  go_ret
  exact ⟨by rw [HE.out]; rfl, HS.out⟩
 by_cases z1 : x.p > 2147483647
 ·have HE : Hid (chkC x = 120) := hid (chkC_no (fun h => by have := h.1; have := h.2.1; have := h.2.2.1; have := h.2.2.2; omega))
  go_enter Tryd.func51, Tryd.ntmps51
  go_wp2_with fail
  go_ret
  exact ⟨by rw [HE.out]; rfl, HS.out⟩
 have y1 : decide (2147483647 < x.p) = false := by simpa using z1
 by_cases z2 : x.h < 0
 ·have HE : Hid (chkC x = 120) := hid (chkC_no (fun h => by have := h.1; have := h.2.1; have := h.2.2.1; have := h.2.2.2; omega))
  go_enter Tryd.func51, Tryd.ntmps51
  go_wp2_with fail
  go_ret
  exact ⟨by rw [HE.out]; rfl, HS.out⟩
 by_cases z3 : x.h > 2147483647
 ·have HE : Hid (chkC x = 120) := hid (chkC_no (fun h => by have := h.1; have := h.2.1; have := h.2.2.1; have := h.2.2.2; omega))
  go_enter Tryd.func51, Tryd.ntmps51
  go_wp2_with fail
  go_ret
  exact ⟨by rw [HE.out]; rfl, HS.out⟩
 have y3 : decide (2147483647 < x.h) = false := by simpa using z3
 by_cases z4 : x.o < 0
 ·have HE : Hid (chkC x = 120) := hid (chkC_no (fun h => by have := h.1; have := h.2.1; have := h.2.2.1; have := h.2.2.2; omega))
  go_enter Tryd.func51, Tryd.ntmps51
  go_wp2_with fail
  go_ret
  exact ⟨by rw [HE.out]; rfl, HS.out⟩
 by_cases z5 : x.o > 2147483647
 ·have HE : Hid (chkC x = 120) := hid (chkC_no (fun h => by have := h.1; have := h.2.1; have := h.2.2.1; have := h.2.2.2; omega))
  go_enter Tryd.func51, Tryd.ntmps51
  go_wp2_with fail
  go_ret
  exact ⟨by rw [HE.out]; rfl, HS.out⟩
 have y5 : decide (2147483647 < x.o) = false := by simpa using z5
 by_cases z6 : x.k < 0
 ·have HE : Hid (chkC x = 120) := hid (chkC_no (fun h => by have := h.1; have := h.2.1; have := h.2.2.1; have := h.2.2.2; omega))
  go_enter Tryd.func51, Tryd.ntmps51
  go_wp2_with fail
  go_ret
  exact ⟨by rw [HE.out]; rfl, HS.out⟩
 by_cases z7 : x.k > 2147483647
 ·have HE : Hid (chkC x = 120) := hid (chkC_no (fun h => by have := h.1; have := h.2.1; have := h.2.2.1; have := h.2.2.2; omega))
  go_enter Tryd.func51, Tryd.ntmps51
  go_wp2_with fail
  go_ret
  exact ⟨by rw [HE.out]; rfl, HS.out⟩
 have y7 : decide (2147483647 < x.k) = false := by simpa using z7
 have HE : Hid (chkC x = 0) := hid (chkC_yes (by unfold MayC; omega))
 clear z1 z3 z5 z7
 go_enter Tryd.func51, Tryd.ntmps51
 go_wp2_with fail
 go_ret
 exact ⟨by rw [HE.out]; rfl, HS.out⟩
end Go.Proofs.YtdljmpjfiggdiaaDoor
namespace Go.Proofs.YtdljmpjfiggdiaaDoor
open Go.RowKit
open Ea
set_option maxRecDepth 100000
set_option maxHeartbeats 1000000 in
theorem rahead_any (L : List Scr) (ao : Option Addr) (n cap i k : Nat) (hi : i < n) (hk : k < n) (w : World) (hr : RdG KC w ao n L) : Calls Tryd.prog 52 #[.slice ao n cap, .int .i64 (i : Int), .int .i64 (k : Int)] w fun e w' => e = .returned (.bool (ahd L i k)) /\ Still w w' := by
 have h47 : n <= 281474976710656 := hr.2.1
 obtain ⟨B, o, rfl⟩ := hr.at (by omega)
 obtain ⟨c0, c1, c2, c3⟩ := rdC hr hi
 have hr1 := hr.still (Still.alloc w (.cells (ccs (sc L i)) 54))
 obtain ⟨d0, d1, d2, d3⟩ := rdC hr1 hk
 have A1 := Still.alloc (newC w (sc L i)) (.cells (ccs (sc L k)) 54)
 have p := (newC_cb w (sc L i)).still A1
 have q := newC_cb (newC w (sc L i)) (sc L k)
 simp only [size_alloc] at q
 have HS := hid ((Still.alloc w (.cells (ccs (sc L i)) 54)).trans A1)
 have HU : Hid (ahd L i k = if (sc L i).p ≠ (sc L k).p then decide ((sc L i).p > (sc L k).p) else if (sc L i).o ≠ (sc L k).o then decide ((sc L i).o < (sc L k).o) else if (sc L i).h ≠ (sc L k).h then decide ((sc L i).h > (sc L k).h) else decide (i < k)) := hid rfl
 obtain ⟨⟨ap, ah, ao', ak⟩, ea⟩ : ∃ x, sc L i = x := ⟨_, rfl⟩
 obtain ⟨⟨bp, bh, bo', bk⟩, eb⟩ : ∃ x, sc L k = x := ⟨_, rfl⟩
 rw [ea, eb] at HU
 rw [ea] at c0 c1 c2 c3 d0 d1 d2 d3 p q HS
 rw [eb] at d0 d1 d2 d3 p q HS
 obtain ⟨e0, e1, e2, e3, ef⟩ := p.cells
 obtain ⟨f0, f1, f2, f3, ff⟩ := q.cells
 simp only at c0 c1 c2 c3 d0 d1 d2 d3 e0 e1 e2 e3 f0 f1 f2 f3 HU
 have hi' : (i : Int) < (n : Int) := by omega
 have hk' : (k : Int) < (n : Int) := by omega
 clear ea eb hr hr1 A1 p q
 by_cases z0 : ap = bp
 ·have z0' : (ap != bp) = false := by simpa using z0
  by_cases z1 : ao' = bo'
  ·have z1' : (ao' != bo') = false := by simpa using z1
   by_cases z2 : ah = bh
   ·have z2' : (ah != bh) = false := by simpa using z2
    rw [if_neg (by simpa using z0), if_neg (by simpa using z1), if_neg (by simpa using z2)] at HU
    rw [HU.out]
    clear z0 z1 z2 HU
    go_enter Tryd.func52, Tryd.ntmps52
    go_wp2_with fail
    go_ret
    exact ⟨by simp, HS.out⟩
   ·have z2' : (ah != bh) = true := by simpa using z2
    rw [if_neg (by simpa using z0), if_neg (by simpa using z1), if_pos (by simpa using z2)] at HU
    rw [HU.out]
    clear z0 z1 z2 HU
    go_enter Tryd.func52, Tryd.ntmps52
    go_wp2_with fail
    go_ret
    exact ⟨by simp, HS.out⟩
  ·have z1' : (ao' != bo') = true := by simpa using z1
   rw [if_neg (by simpa using z0), if_pos (by simpa using z1)] at HU
   rw [HU.out]
   clear z0 z1 HU
   go_enter Tryd.func52, Tryd.ntmps52
   go_wp2_with fail
   go_ret
   exact ⟨by simp, HS.out⟩
 ·have z0' : (ap != bp) = true := by simpa using z0
  rw [if_pos (by simpa using z0)] at HU
  rw [HU.out]
  clear z0 HU
  go_enter Tryd.func52, Tryd.ntmps52
  go_wp2_with fail
  go_ret
  exact ⟨by simp, HS.out⟩
def cntJ (L : List Scr) (i j : Nat) : Nat := (List.range j).countP fun k => ahd L k i
theorem cntJ_step (L : List Scr) (i j : Nat) : cntJ L i (j + 1) = cntJ L i j + (if ahd L j i then 1 else 0) := by
 unfold cntJ
 rw [List.range_succ, List.countP_append]
 simp [List.countP_cons]
theorem cntJ_le (L : List Scr) (i j : Nat) : cntJ L i j <= j := by
 unfold cntJ
 have : ((List.range j).countP fun k => ahd L k i) <= (List.range j).length := List.countP_le_length
 simpa using this
theorem rnkF_step (L : List Scr) (i : Nat) : rnkF L (i + 1) = (rnkF L i).set (cntC L i) (i : Int) := rfl
set_option maxHeartbeats 4000000 in
theorem rrank_in (L : List Scr) (ao : Option Addr) (n cap : Nat) (h6 : n <= 6) (w : World) (hr : RdG KC w ao n L) : Calls Tryd.prog 28 #[.slice ao n cap] w fun e w' => ∃ bo m cp, e = .returned (.tuple #[.slice bo m cp, .int .i64 (errR L)]) /\ OwI 3 w' bo m cp (rnkA L) /\ Still w w' /\ ∀ a, bo = some a -> w.heap.size <= a.block := by
  have HR := hid hr
  have HL := hid hr.1
  have h6' : decide ((6 : Int) < (n : Int)) = false := by simp; omega
  have hmk : ∀ W : World, (Instr.makeSlice 69 (.int .i64 (n : Int)) (.int .i64 (n : Int))).run Tryd.prog W = .ok (.slice (some ⟨W.heap.size, 0, none⟩) n n) (W.alloc (.cells (madeCells #[.int .i64 0] n) 3)) := fun W =>
    run_make_row' (P := Tryd.prog) 69 3 (.int .i64 0) 8 Tryd.underlying69 info_int rfl .i64 .i64 n (by omega) (by omega) W
  have HNew := hid (fun (W : World) => (OwI.fresh W (madeCells #[.int .i64 0] n) n n (List.replicate n 0) (by simp) (Nat.le_refl _) (by unfold maxLen; omega) (by rw [size_madeCells]) (fun j hj => by
      simp at hj
      simp [madeCells, hj]
      rw [Nat.mod_one]; rfl) : OwI 3 (W.alloc (.cells (madeCells #[.int .i64 0] n) 3)) (some ⟨W.heap.size, 0, none⟩) n n (List.replicate n 0)))
  obtain ⟨CS, hCS⟩ : ∃ CS, CS = madeCells #[.int .i64 0] n := ⟨_, rfl⟩
  rw [<- hCS] at HNew
  simp only [<- hCS] at hmk
  clear hCS hr
  go_enter Tryd.func28, Tryd.ntmps28
  go_wp2_with fail
  go_loopw [4] (fun u wr => ∃ k : Nat, k <= n /\ u = .int .i64 (k : Int) /\ Hid (∀ i, i < k -> MayC (sc L i)) /\ Still w wr) (fun u _ => n - (intOf u).toNat)
  case atStart => exact ⟨0, by omega, rfl, hid (fun i hi => by omega), Fr.refl _ _⟩
  case round =>
    obtain ⟨k, hk, rfl, HK, hs⟩ := hrel
    by_cases hkn : k < n
    · have hlt : (k : Int) < (n : Int) := by omega
      have hr1 := HR.out.still hs
      obtain ⟨B, o, rfl⟩ := hr1.at (by omega)
      obtain ⟨c0, c1, c2, c3⟩ := rdC hr1 hkn
      have HNo := hid (show ¬ MayC (sc L k) -> errR L = 120 /\ rnkA L = [] from fun h => by
        have e : rnkE L = false := by
          cases e : rnkE L with
          | false => rfl
          | true => exact absurd ((rnkE_iff.1 e).2 k (by have := HL.out; omega)) h
        exact ⟨by unfold errR; rw [e]; rfl, by unfold rnkA; rw [e]; rfl⟩)
      have HC := hid (fun u => rchk12_any (sc L k) u)
      have HS1 := hid hs
      by_cases hm : MayC (sc L k)
      · rw [chkC_yes hm] at HC
        have HE := hid (show ∀ i, i < k + 1 -> MayC (sc L i) from fun i hi => by
          by_cases e : i = k
          · subst e; exact hm
          · exact HK.out i (by omega))
        obtain ⟨x, ex⟩ : ∃ x, sc L k = x := ⟨_, rfl⟩
        rw [ex] at c0 c1 c2 c3 HC
        clear hs hr1 hm HNo HK ex
        go_wp2_with fail
        refine (HC.out _).mono ?_
        rintro e w1 ⟨rfl, h1⟩
        have HS2 := hid (HS1.out.trans h1)
        clear h1 HS1 c0 c1 c2 c3
        go_wp2_with fail
        go_roundw
        case rel => exact ⟨k + 1, by omega, by go_num, HE, HS2.out⟩
        case measure => simp [intOf]; omega
      · rw [chkC_no hm] at HC
        have HE := hid (HNo.out hm)
        obtain ⟨x, ex⟩ : ∃ x, sc L k = x := ⟨_, rfl⟩
        rw [ex] at c0 c1 c2 c3 HC
        clear hs hr1 hm HNo HK ex
        go_wp2_with fail
        refine (HC.out _).mono ?_
        rintro e w1 ⟨rfl, h1⟩
        have HS2 := hid (HS1.out.trans h1)
        clear h1 HS1 c0 c1 c2 c3
        go_wp2_with fail
        (first | rw [Exit.noGoto_ret] | skip)
        go_ret2
        refine ⟨none, 0, 0, by rw [HE.out.1]; rfl, ?_, HS2.out, fun a h => by cases h⟩
        rw [HE.out.2]
        exact OwI.empty _ _
    · have hge : ¬ (k : Int) < (n : Int) := by omega
      obtain rfl : k = n := by omega
      have HE : Hid (errR L = 0 /\ rnkA L = rnk L) := hid (by
        have e : rnkE L = true := rnkE_iff.2 ⟨by have := HL.out; omega, fun i hi => HK.out i (by have := HL.out; omega)⟩
        exact ⟨by unfold errR; rw [e]; rfl, by unfold rnkA; rw [e]; rfl⟩)
      have HS1 := hid hs
      have HA := hid (Still.alloc wr (.cells CS 3))
      have HO := hid (HNew.out wr)
      have HG := hid (show w.heap.size <= wr.heap.size from hs.size)
      obtain ⟨g, eg⟩ : ∃ g, wr.heap.size = g := ⟨_, rfl⟩
      rw [eg] at HO HG
      rw [show List.replicate k 0 = rnkF L 0 by unfold rnkF; rw [HL.out]] at HO
      clear hs hge hk hkn HK HNew
      go_wp2_with fail
      (try rw [eg])
      clear hmk eg
      go_loopw [7] (fun u wx => ∃ i : Nat, i <= k /\ u = .int .i64 (i : Int) /\ OwI 3 wx (some ⟨g, 0, none⟩) k k (rnkF L i) /\ Still w wx) (fun u _ => k - (intOf u).toNat)
      case atStart => exact ⟨0, by omega, rfl, HO.out, HS1.out.trans HA.out⟩
      case round =>
        clear HO HS1 HA
        obtain ⟨i, hi, rfl, ho, hs⟩ := hrel
        by_cases hik : i < k
        · have hlt : (i : Int) < (k : Int) := by omega
          have HO1 := hid ho
          have HS1 := hid hs
          clear ho hs
          go_wp2_with fail
          go_loopw [8, 9] (fun v u wy => ∃ j : Nat, j <= k /\ v = .int .i64 ((cntJ L i j : Nat) : Int) /\ u = .int .i64 (j : Int) /\ Still wr wy) (fun _ u _ => k - (intOf u).toNat)
          case atStart => exact ⟨0, by omega, rfl, rfl, Fr.refl _ _⟩
          case round =>
            obtain ⟨j, hj, rfl, rfl, hs2⟩ := hrel
            by_cases hjk : j < k
            · have hlt2 : (j : Int) < (k : Int) := by omega
              have HC := hid (rahead_any L ao k cap j i hjk hik _ (HR.out.still (HS1.out.trans hs2)))
              have HS2 := hid hs2
              have HT := hid (cntJ_step L i j)
              have hcl := cntJ_le L i j
              obtain ⟨b, eb⟩ : ∃ b, ahd L j i = b := ⟨_, rfl⟩
              obtain ⟨c, ec⟩ : ∃ c, cntJ L i j = c := ⟨_, rfl⟩
              rw [eb] at HC HT
              rw [ec] at HT hcl ⊢
              clear hs2 eb ec
              go_wp2_with fail
              refine HC.out.mono ?_
              rintro e w2 ⟨rfl, h2⟩
              have HS3 := hid (HS2.out.trans h2)
              clear h2 HS2 HC
              cases b with
              | true =>
                go_wp2_with fail
                go_roundw
                case rel => exact ⟨j + 1, by omega, by rw [HT.out]; go_num, by go_num, HS3.out⟩
                case measure => simp [intOf]; omega
              | false =>
                go_wp2_with fail
                go_roundw
                case rel => exact ⟨j + 1, by omega, by rw [HT.out]; go_num, by go_num, HS3.out⟩
                case measure => simp [intOf]; omega
            · have hge : ¬ (j : Int) < (k : Int) := by omega
              obtain rfl : j = k := by omega
              have ecn : cntJ L i j = cntC L i := by unfold cntJ cntC; rw [HL.out]
              have hcl : cntC L i < j := by have := cntC_lt (L := L) (i := i) (by have := HL.out; omega); have := HL.out; omega
              have ho2 := HO1.out.still hs2
              rw [ecn]
              have HT := hid (rnkF_step L i)
              obtain ⟨c, ec⟩ : ∃ c, cntC L i = c := ⟨_, rfl⟩
              rw [ec] at hcl HT ⊢
              obtain ⟨⟨v0, hv⟩, hfz⟩ := ho2.cellAt hcl
              have HR2 := hid (And.intro (ho2.set (x := (i : Int)) hcl) ((HS1.out.trans hs2).setCell ⟨g, c, none⟩ (.int .i64 (i : Int)) (.inr HG.out)))
              have hcl' : (c : Int) < (j : Int) := by omega
              clear ho2 hs2 ec ecn hge HO1
              go_wp2_with fail
              go_roundw
              case rel => exact ⟨i + 1, by omega, by go_num, by rw [HT.out]; exact HR2.out.1, HR2.out.2⟩
              case measure => simp [intOf]; omega
        · have hge : ¬ (i : Int) < (k : Int) := by omega
          obtain rfl : i = k := by omega
          have HO1 := hid (And.intro ho hs)
          clear ho hs hge
          go_wp2_with fail
          go_ret2
          refine ⟨_, _, _, by rw [HE.out.1]; rfl, ?_, HO1.out.2, fun a h => by cases h; exact HG.out⟩
          rw [HE.out.2, rnk, HL.out]
          exact HO1.out.1
theorem rrank_any (L : List Scr) (ao : Option Addr) (n cap : Nat) (w : World) (hr : RdG KC w ao n L) : Calls Tryd.prog 28 #[.slice ao n cap] w fun e w' => ∃ bo m cp, e = .returned (.tuple #[.slice bo m cp, .int .i64 (errR L)]) /\ OwI 3 w' bo m cp (rnkA L) /\ Still w w' /\ ∀ a, bo = some a -> w.heap.size <= a.block := by
 by_cases h6 : n <= 6
 ·exact rrank_in L ao n cap h6 w hr
 ·have e : rnkE L = false := by
   cases e : rnkE L with
   | false => rfl
   | true => have := (rnkE_iff.1 e).1; have := hr.1; omega
  have HE : Hid (errR L = 120 /\ rnkA L = []) := hid ⟨by unfold errR; rw [e]; rfl, by unfold rnkA; rw [e]; rfl⟩
  have h6' : decide ((6 : Int) < (n : Int)) = true := by simp; omega
  clear e hr h6
  go_enter Tryd.func28, Tryd.ntmps28
  go_wp2_with fail
  go_ret2
  refine ⟨none, 0, 0, by rw [HE.out.1]; rfl, ?_, Fr.refl _ _, fun a h => by cases h⟩
  rw [HE.out.2]
  exact OwI.empty _ _
end Go.Proofs.YtdljmpjfiggdiaaDoor
namespace Go.Proofs.YtdljmpjfiggdiaaDoor
open Go.RowKit
open Ea
set_option maxRecDepth 100000
theorem cnan_any (x : Int) (w : World) : Calls Tryd.prog 75 #[.int .i64 x] w fun e w' => e = .returned (.bool false) /\ w' = w := by
 have h : (x != x) = false := by simp
 go_enter Tryd.func75, Tryd.ntmps75
 go_wp2_with fail
 go_ret
 exact ⟨by simp, rfl⟩
theorem ccmp_any (x y : Int) (w : World) : Calls Tryd.prog 59 #[.int .i64 x, .int .i64 y] w fun e w' => e = .returned (.int .i64 (cI x y)) /\ w' = w := by
 have H1 := hid (fun w => cnan_any x w)
 have H2 := hid (fun w => cnan_any y w)
 by_cases h1 : x < y
 ·have HE : Hid (cI x y = -1) := hid (by unfold cI; rw [if_pos h1])
  go_enter Tryd.func59, Tryd.ntmps59
  go_wp2_with fail
  refine (H1.out _).mono ?_
  rintro e w1 ⟨rfl, rfl⟩
  go_wp2_with fail
  refine (H2.out _).mono ?_
  rintro e w1 ⟨rfl, rfl⟩
  go_wp2_with fail
  go_ret
  exact ⟨by rw [HE.out]; rfl, rfl⟩
 ·by_cases h2 : x > y
  ·have HE : Hid (cI x y = 1) := hid (by unfold cI; rw [if_neg h1, if_pos h2])
   go_enter Tryd.func59, Tryd.ntmps59
   go_wp2_with fail
   refine (H1.out _).mono ?_
   rintro e w1 ⟨rfl, rfl⟩
   go_wp2_with fail
   refine (H2.out _).mono ?_
   rintro e w1 ⟨rfl, rfl⟩
   go_wp2_with fail
   go_ret
   exact ⟨by rw [HE.out]; rfl, rfl⟩
  ·have HE : Hid (cI x y = 0) := hid (by unfold cI; rw [if_neg h1, if_neg h2])
   go_enter Tryd.func59, Tryd.ntmps59
   go_wp2_with fail
   refine (H1.out _).mono ?_
   rintro e w1 ⟨rfl, rfl⟩
   go_wp2_with fail
   refine (H2.out _).mono ?_
   rintro e w1 ⟨rfl, rfl⟩
   go_wp2_with fail
   go_ret
   exact ⟨by rw [HE.out]; rfl, rfl⟩
theorem cor_any (l : List Int) (B n cap : Nat) (w : World) (hr : RdI w (some ⟨B, 0, none⟩) n cap l) : Calls Tryd.prog 58 #[.slice (some ⟨B, 0, none⟩) n cap] w fun e w' => e = .returned (.int .i64 (orI l)) /\ w' = w := by
 have hl := hr.len
 have hn := hr.small
 have HR := hid hr
 clear hr
 go_enter Tryd.func58, Tryd.ntmps58
 go_wp2_with fail
 go_loopw [8] (fun u wr => ∃ k : Nat, k <= n /\ u = .int .i64 (k : Int) /\ Hid (orI l = orI (l.drop k)) /\ wr = w) (fun u _ => n - (intOf u).toNat)
 case atStart => exact ⟨0, by omega, rfl, hid (by simp), rfl⟩
 case round =>
  obtain ⟨k, hk, rfl, HE, rfl⟩ := hrel
  by_cases hkn : k < n
  ·have hlt : (k : Int) < (n : Int) := by omega
   have c0 := HR.out.byte (k := k) (by omega)
   rw [Nat.zero_add] at c0
   have HD : Hid (orI (l.drop k) = if l[k]'(by omega) ≠ 0 then l[k]'(by omega) else orI (l.drop (k + 1))) := hid (by rw [List.drop_eq_getElem_cons (by omega)]; rfl)
   obtain ⟨x, ex⟩ : ∃ x, l[k]'(by omega) = x := ⟨_, rfl⟩
   rw [ex] at c0 HD
   clear ex
   by_cases hx : x = 0
   ·have HE2 : Hid (orI l = orI (l.drop (k + 1))) := hid (by rw [HE.out, HD.out, if_neg (by simpa using hx)])
    subst hx
    clear HE HD
    go_wp2_with fail
    go_roundw
    case rel => exact ⟨k + 1, by omega, by go_num, HE2, by trivial⟩
    case measure => simp [intOf]; omega
   ·have HE2 : Hid (orI l = x) := hid (by rw [HE.out, HD.out, if_pos (by simpa using hx)])
    have hx' : (x != 0) = true := by simpa using hx
    clear HE HD hx
    go_wp2_with fail
    (first | rw [Exit.noGoto_ret] | skip)
    go_ret
    exact ⟨by rw [HE2.out]; rfl, rfl⟩
  ·have hge : ¬ (k : Int) < (n : Int) := by omega
   have HE2 : Hid (orI l = 0) := hid (by rw [HE.out, List.drop_eq_nil_of_le (by omega)]; rfl)
   clear HE
   go_wp2_with fail
   go_ret
   exact ⟨by rw [HE2.out]; rfl, rfl⟩
theorem rdI_four (w : World) (a b c d : Int) : RdI (w.alloc (.cells #[.int .i64 a, .int .i64 b, .int .i64 c, .int .i64 d] 3)) (some ⟨w.heap.size, 0, none⟩) 4 4 [a, b, c, d] :=
 (OwI.fresh (e := 3) w #[.int .i64 a, .int .i64 b, .int .i64 c, .int .i64 d] 4 4 [a, b, c, d] rfl (Nat.le_refl _) (by unfold maxLen; omega) rfl (fun j hj => by
  have : j = 0 \/ j = 1 \/ j = 2 \/ j = 3 := by simp at hj; omega
  rcases this with rfl | rfl | rfl | rfl <;> rfl)).rd
set_option maxHeartbeats 2000000 in
theorem sahead_any (L : List Scr) (ao : Option Addr) (n cap a b : Nat) (ha : a < n) (hb : b < n) (w : World) (hr : RdG KC w ao n L) : Calls Tryd.prog 49 #[.slice ao n cap, .int .i64 (a : Int), .int .i64 (b : Int)] w fun e w' => e = .returned (.int .i64 (cfL L a b)) /\ Still w w' := by
 have h47 : n <= 281474976710656 := hr.2.1
 obtain ⟨B, o, rfl⟩ := hr.at (by omega)
 obtain ⟨c0, c1, c2, c3⟩ := rdC hr ha
 obtain ⟨d0, d1, d2, d3⟩ := rdC hr hb
 have HU : Hid (cfL L a b = orI [cI (sc L b).p (sc L a).p, cI (sc L a).o (sc L b).o, cI (sc L b).h (sc L a).h, cI (a : Int) (b : Int)]) := hid rfl
 have H0 := hid (fun w => ccmp_any (sc L b).p (sc L a).p w)
 have H1 := hid (fun w => ccmp_any (sc L a).o (sc L b).o w)
 have H2 := hid (fun w => ccmp_any (sc L b).h (sc L a).h w)
 have H3 := hid (fun w => ccmp_any (a : Int) (b : Int) w)
 obtain ⟨r0, e0⟩ : ∃ r, cI (sc L b).p (sc L a).p = r := ⟨_, rfl⟩
 obtain ⟨r1, e1⟩ : ∃ r, cI (sc L a).o (sc L b).o = r := ⟨_, rfl⟩
 obtain ⟨r2, e2⟩ : ∃ r, cI (sc L b).h (sc L a).h = r := ⟨_, rfl⟩
 obtain ⟨r3, e3⟩ : ∃ r, cI (a : Int) (b : Int) = r := ⟨_, rfl⟩
 rw [e0, e1, e2, e3] at HU
 rw [e0] at H0
 rw [e1] at H1
 rw [e2] at H2
 rw [e3] at H3
 obtain ⟨v, ev⟩ : ∃ v, cfL L a b = v := ⟨_, rfl⟩
 rw [ev] at HU ⊢
 clear e0 e1 e2 e3 ev
 obtain ⟨⟨ap, ah, ao', ak⟩, ea⟩ : ∃ x, sc L a = x := ⟨_, rfl⟩
 obtain ⟨⟨bp, bh, bo', bk⟩, eb⟩ : ∃ x, sc L b = x := ⟨_, rfl⟩
 rw [ea, eb] at H0 H1 H2
 rw [ea] at c0 c1 c2 c3
 rw [eb] at d0 d1 d2 d3
 simp only at c0 c1 c2 c3 d0 d1 d2 d3 H0 H1 H2
 have ha' : (a : Int) < (n : Int) := by omega
 have hb' : (b : Int) < (n : Int) := by omega
 have q0 := Cl.cell c0
 have q1 := Cl.cell c1
 have q2 := Cl.cell c2
 have s0 := Cl.cell d0
 have s1 := Cl.cell d1
 have s2 := Cl.cell d2
 have hne := Aft.here w
 clear ea eb hr c0 c1 c2 c3 d0 d1 d2 d3
 go_enter Tryd.func49, Tryd.ntmps49
 go_wp2_with fail
 refine region_rest 36 (by kernel_rfl) (by kernel_rfl) ?_
 simp only [List.take_succ_cons, List.take_zero, List.drop_succ_cons, List.drop_zero]
 repeat (go_big_quiet_step ((first | (go_at_call 59; with_reducible exact Calls.cl_same (H0.out _)) | (go_at_call 59; with_reducible exact Calls.cl_same (H1.out _)) | (go_at_call 59; with_reducible exact Calls.cl_same (H2.out _)) | (go_at_call 59; with_reducible exact Calls.cl_same (H3.out _)))))
 refine wpQuiet_nil ?_
 intro w1 h1
 have HS1 := hid (h1.trans (Still.alloc w1 (.cells #[.int .i64 r0, .int .i64 r1, .int .i64 r2, .int .i64 r3] 3)))
 have HO := hid (cor_any _ _ _ _ _ (rdI_four w1 r0 r1 r2 r3))
 rw [<- HU.out] at HO
 clear HU h1 q0 q1 q2 s0 s1 s2 hne H0 H1 H2 H3
 go_wp2_with fail
 refine HO.out.mono ?_
 rintro e w2 ⟨he, hw⟩
 rw [he, hw]
 clear he hw w2 HO
 go_wp2_with fail
 (try simp only [Exit.inBlock, Exit.then])
 go_ret
 exact ⟨rfl, HS1.out⟩
end Go.Proofs.YtdljmpjfiggdiaaDoor
namespace Go.Proofs.YtdljmpjfiggdiaaDoor
open Go.RowKit
open Ea
set_option maxRecDepth 100000
abbrev fvA (ao : Option Addr) (n cap : Nat) : Value := .func (.func 49) #[.slice ao n cap] #[]
theorem ahead_at {L : List Scr} {ao : Option Addr} {n cap : Nat} {w0 w : World} (hr : RdG KC w0 ao n L) (hs : Still w0 w) {R : List Int} (hp : Plc n R) {a b : Nat} (ha : a < n) (hb : b < n) (z : Aft w) :
  Calls Tryd.prog 49 #[.slice ao n cap, .int .i64 (R.getD a 0), .int .i64 (R.getD b 0)] z.u fun e w' => e = .returned (.int .i64 (cfL L (pl R a) (pl R b))) /\ Still z.u w' := by
 rw [(hp.low a ha).1, (hp.low b hb).1]
 exact sahead_any L ao n cap _ _ (hp.low a ha).2 (hp.low b hb).2 z.u (hr.still (hs.trans z.s))
set_option maxHeartbeats 4000000 in
theorem sins_any (L : List Scr) (ao : Option Addr) (n cap g : Nat) (h6 : n <= 12) (w0 w : World) (hr : RdG KC w0 ao n L) (hg : w0.heap.size <= g) (hs : Still w0 w) (R : List Int) (hp : Plc n R) (ho : OwI 3 w (some ⟨g, 0, none⟩) n n R) :
  Calls Tryd.prog 65 #[.slice (some ⟨g, 0, none⟩) n n, .int .i64 0, .int .i64 (n : Int), fvA ao n cap] w fun e w' => e = .returned (.tuple #[]) /\ ∃ R', Plc n R' /\ Srt L R' n /\ OwI 3 w' (some ⟨g, 0, none⟩) n n R' /\ Still w0 w' := by
 have HR := hid hr
 have H0 := hid (And.intro hp (And.intro ho hs))
 clear hr hp ho hs
 go_enter Tryd.func65, Tryd.ntmps65
 go_wp2_with fail
 go_loopw [8] (fun u wr => ∃ (i : Nat) (R1 : List Int), 1 <= i /\ i <= n + 1 /\ u = .int .i64 (i : Int) /\ Hid (Plc n R1 /\ Srt L R1 i /\ OwI 3 wr (some ⟨g, 0, none⟩) n n R1 /\ Still w0 wr)) (fun u _ => n + 1 - (intOf u).toNat)
 case atStart => exact ⟨1, R, by omega, by omega, by go_num, hid ⟨H0.out.1, fun a b h1 h2 => by omega, H0.out.2⟩⟩
 case round =>
  clear H0
  obtain ⟨i, R1, hi1, hi2, rfl, H1⟩ := hrel
  by_cases hin : i < n
  ·have hlt : (i : Int) < (n : Int) := by omega
   go_wp2_with fail
   go_loopw [9] (fun u wr => ∃ (j : Nat) (R2 : List Int), j <= i /\ u = .int .i64 (j : Int) /\ Hid (Plc n R2 /\ Ins L R2 i j /\ OwI 3 wr (some ⟨g, 0, none⟩) n n R2 /\ Still w0 wr)) (fun u _ => (intOf u).toNat)
   case atStart => exact ⟨i, R1, Nat.le_refl _, rfl, hid ⟨H1.out.1, ins_start H1.out.2.1, H1.out.2.2⟩⟩
   case round =>
    clear H1
    obtain ⟨j, R2, hj, rfl, H2⟩ := hrel
    rcases j with _ | m
    ·have hz : decide ((0 : Int) > 0) = false := by decide
     have hne := Aft.here wr
     have H3 := hid (ins_stop H2.out.1 hin hj H2.out.2.1 (.inl rfl))
     go_upto_region 4 with fail
     refine region_all (by kernel_rfl) (by kernel_rfl) ?_
     repeat (go_big_quiet_step (fail))
     refine wpQuiet_nil ?_
     intro w3 h3
     have H4 : Hid (Plc n R2 /\ Srt L R2 (i + 1) /\ OwI 3 w3 (some ⟨g, 0, none⟩) n n R2 /\ Still w0 w3) := hid ⟨H2.out.1, H3.out, H2.out.2.2.1.still h3, H2.out.2.2.2.trans h3⟩
     clear H2 H3 h3 hne hz
     go_wp2_with fail
     go_roundw
     case rel => exact ⟨i + 1, R2, by omega, by omega, by go_num, H4⟩
     case measure => simp [intOf]; omega
    ·have hmn : m < n := by omega
     have hmn1 : m + 1 < n := by omega
     have hlen := H2.out.1.len
     have ca := H2.out.2.2.1.rd.byte (k := m + 1) (by omega)
     have cb := H2.out.2.2.1.rd.byte (k := m) (by omega)
     rw [Nat.zero_add] at ca cb
     rw [show R2[m + 1]'(by omega) = R2.getD (m + 1) 0 by simp [List.getD, hlen, hmn1]] at ca
     rw [show R2[m]'(by omega) = R2.getD m 0 by simp [List.getD, hlen, hmn]] at cb
     have HC := hid (fun z : Aft wr => ahead_at (cap := cap) HR.out H2.out.2.2.2 H2.out.1 hmn1 hmn z)
     have HN := hid (cfL_neg L (pl R2 (m + 1)) (pl R2 m))
     obtain ⟨x, ex⟩ : ∃ x, R2.getD (m + 1) 0 = x := ⟨_, rfl⟩
     obtain ⟨y, ey⟩ : ∃ y, R2.getD m 0 = y := ⟨_, rfl⟩
     obtain ⟨v, ev⟩ : ∃ v, cfL L (pl R2 (m + 1)) (pl R2 m) = v := ⟨_, rfl⟩
     rw [ex] at ca HC
     rw [ey] at cb HC
     rw [ev] at HC HN
     have la := Cl.cell ca
     have lb := Cl.cell cb
     have hne := Aft.here wr
     have z1 : ((m : Int) + 1).toNat = m + 1 := by omega
     have z2 : decide ((m : Int) + 1 > 0) = true := decide_eq_true (by omega)
     have z3 : (m : Int) + 1 < (n : Int) := by omega
     have z4 : (m : Int) < (n : Int) := by omega
     have z5 : (0 : Int) <= (m : Int) + 1 := by omega
     have z6 : IntKind.i64.wrap ((m : Int) + 1) = (m : Int) + 1 := by rw [IntKind.wrap_i64]; omega
     clear ex ey ev ca cb
     cases hb : ahd L (pl R2 (m + 1)) (pl R2 m) with
     | false =>
      have H3 := hid (ins_stop H2.out.1 hin hj H2.out.2.1 (.inr hb))
      rw [hb] at HN
      have hv := HN.out
      clear hb HN
      go_upto_region 4 with fail
      refine region_all (by kernel_rfl) (by kernel_rfl) ?_
      repeat (go_big_quiet_step ((first | (go_at_call 49; with_reducible exact Calls.cl (HC.out _)))))
      refine wpQuiet_nil ?_
      intro w3 h3
      have H4 : Hid (Plc n R2 /\ Srt L R2 (i + 1) /\ OwI 3 w3 (some ⟨g, 0, none⟩) n n R2 /\ Still w0 w3) := hid ⟨H2.out.1, H3.out, H2.out.2.2.1.still h3, H2.out.2.2.2.trans h3⟩
      clear H2 H3 h3 hne HC la lb
      go_wp2_with fail
      go_roundw
      case rel => exact ⟨i + 1, R2, by omega, by omega, by go_num, H4⟩
      case measure => simp [intOf]; omega
     | true =>
      have H3 := hid (ins_step H2.out.1 hin hj H2.out.2.1 hb)
      rw [hb] at HN
      have hv := HN.out
      clear hb HN
      go_upto_region 4 with fail
      refine region_all (by kernel_rfl) (by kernel_rfl) ?_
      repeat (go_big_quiet_step ((first | (go_at_call 49; with_reducible exact Calls.cl (HC.out _)))))
      refine wpQuiet_nil ?_
      intro w3 h3
      obtain ⟨a, b, c1, c2, f1, f2, ⟨v3, c3⟩, f3, RR⟩ := (H2.out.2.2.1.still h3).two (i := m + 1) (j := m) (by omega) (by omega)
      have R4 : Still w0 (((w3.setCell ⟨g, m + 1, none⟩ (.int .i64 b)).setCell ⟨g, m, none⟩ (.int .i64 a)).drew) := (((H2.out.2.2.2.trans h3).setCell _ _ (.inr hg)).setCell _ _ (.inr hg)).drew
      have H4 := hid (And.intro (H2.out.1.swap hmn1 hmn) (And.intro H3.out (And.intro (RR.still ((Fr.refl _ _).drew)) R4)))
      clear H2 H3 h3 hne HC la lb RR R4
      go_wp2_with fail
      go_region
      go_wp2_with fail
      go_roundw
      case rel => exact ⟨m, _, by omega, by go_num, H4⟩
      case measure => simp [intOf]
  ·have hge : ¬ (i : Int) < (n : Int) := by omega
   have H2 : Hid (∃ R', Plc n R' /\ Srt L R' n /\ OwI 3 wr (some ⟨g, 0, none⟩) n n R' /\ Still w0 wr) := hid ⟨R1, H1.out.1, fun a b h1 h2 => H1.out.2.1 a b h1 (by omega), H1.out.2.2⟩
   clear H1
   go_wp2_with fail
   go_end0
   exact ⟨rfl, H2.out⟩
end Go.Proofs.YtdljmpjfiggdiaaDoor
namespace Go.Proofs.YtdljmpjfiggdiaaDoor
open Go.RowKit
open Ea
set_option maxRecDepth 100000
theorem blen64_small (n : Nat) (h : n <= 12) (w : World) : Calls Tryd.prog 74 #[.int .u64 (n : Int)] w fun e w' => (∃ l : Int, e = .returned (.int .i64 l)) /\ w' = w := by
 have h1 : ¬ (4294967296 : Int) <= (n : Int) := by omega
 have h2 : ¬ (65536 : Int) <= (n : Int) := by omega
 have h3 : ¬ (256 : Int) <= (n : Int) := by omega
 go_enter Tryd.func74, Tryd.ntmps74
 go_wp2_with fail
 go_ret
 exact ⟨⟨_, rfl⟩, rfl⟩
theorem blen_small (n : Nat) (h : n <= 12) (w : World) : Calls Tryd.prog 57 #[.int .u64 (n : Int)] w fun e w' => (∃ l : Int, e = .returned (.int .i64 l)) /\ w' = w := by
 have H := hid (fun w => blen64_small n h w)
 clear h
 go_enter Tryd.func57, Tryd.ntmps57
 go_wp2_with fail
 refine (H.out _).mono ?_
 rintro e w1 ⟨⟨l, rfl⟩, rfl⟩
 go_wp2_with fail
 go_ret
 exact ⟨⟨_, rfl⟩, rfl⟩
def SrtQ (L : List Scr) (n g : Nat) (w0 w' : World) : Prop := ∃ R', Plc n R' /\ Srt L R' n /\ OwI 3 w' (some ⟨g, 0, none⟩) n n R' /\ Still w0 w'
set_option maxHeartbeats 1000000 in
theorem spdq_any (L : List Scr) (ao : Option Addr) (n cap g : Nat) (lim : Int) (h6 : n <= 12) (w0 w : World) (hr : RdG KC w0 ao n L) (hg : w0.heap.size <= g) (hs : Still w0 w) (R : List Int) (hp : Plc n R) (ho : OwI 3 w (some ⟨g, 0, none⟩) n n R) :
  Calls Tryd.prog 56 #[.slice (some ⟨g, 0, none⟩) n n, .int .i64 0, .int .i64 (n : Int), .int .i64 lim, fvA ao n cap] w fun e w' => e = .returned (.tuple #[]) /\ SrtQ L n g w0 w' := by
 have H := hid (sins_any L ao n cap g h6 w0 w hr hg hs R hp ho)
 have h12 : (n : Int) <= 12 := by omega
 clear hr hg hs hp ho
 go_enter Tryd.func56, Tryd.ntmps56
 go_wp2_with fail
 refine wp_loop_rounds 1 ?_
 rw [rounds_succ]
 go_wp2_with fail
 refine H.out.mono ?_
 rintro e w1 ⟨rfl, h1⟩
 have H1 : Hid (SrtQ L n g w0 w1) := hid h1
 clear h1 H
 go_wp2_with fail
 (try simp only [Exit.inBlock, Exit.then])
 refine bodyPost_ret (results_none rfl _ _ _) rfl ?_
 exact ⟨rfl, H1.out⟩
set_option maxHeartbeats 1000000 in
theorem ssort_any (L : List Scr) (ao : Option Addr) (n cap g : Nat) (h6 : n <= 12) (w0 w : World) (hr : RdG KC w0 ao n L) (hg : w0.heap.size <= g) (hs : Still w0 w) (R : List Int) (hp : Plc n R) (ho : OwI 3 w (some ⟨g, 0, none⟩) n n R) :
  Calls Tryd.prog 48 #[.slice (some ⟨g, 0, none⟩) n n, fvA ao n cap] w fun e w' => e = .returned (.tuple #[]) /\ SrtQ L n g w0 w' := by
 have H := hid (fun lim => spdq_any L ao n cap g lim h6 w0 w hr hg hs R hp ho)
 have HB := hid (fun w => blen_small n h6 w)
 have h12 : (n : Int) <= 12 := by omega
 clear hr hg hs hp ho
 go_enter Tryd.func48, Tryd.ntmps48
 go_wp2_with fail
 refine (HB.out _).mono ?_
 rintro e w1 ⟨⟨l, rfl⟩, rfl⟩
 go_wp2_with fail
 refine (H.out _).mono ?_
 rintro e w2 ⟨rfl, h2⟩
 have H2 := hid h2
 clear h2 H HB
 go_wp2_with fail
 go_end0
 exact ⟨rfl, H2.out⟩
end Go.Proofs.YtdljmpjfiggdiaaDoor
namespace Go.Proofs.YtdljmpjfiggdiaaDoor
open Go.RowKit
open Ea
set_option maxRecDepth 100000
theorem xwithin_any (n a b : Int) (w : World) : Calls Tryd.prog 63 #[.int .i64 n, .int .i64 a, .int .i64 b] w fun e w' => e = .returned (.bool (decide (a <= n /\ n <= b))) /\ w' = w := by
 by_cases h1 : a <= n
 ·by_cases h2 : n <= b
  ·rw [show decide (a <= n /\ n <= b) = true by simp; omega]
   go_enter Tryd.func63, Tryd.ntmps63
   go_wp2_with fail
   go_ret
   exact ⟨rfl, rfl⟩
  ·rw [show decide (a <= n /\ n <= b) = false by simp; omega]
   go_enter Tryd.func63, Tryd.ntmps63
   go_wp2_with fail
   go_ret
   exact ⟨rfl, rfl⟩
 ·rw [show decide (a <= n /\ n <= b) = false by simp; omega]
  go_enter Tryd.func63, Tryd.ntmps63
  go_wp2_with fail
  go_ret
  exact ⟨rfl, rfl⟩
theorem scount_any (n : Int) (w : World) : Calls Tryd.prog 64 #[.int .i64 n] w fun e w' => e = .returned (.bool (decide (0 <= n /\ n <= 2147483647))) /\ w' = w := by
 have H := hid (fun w => xwithin_any n 0 2147483647 w)
 obtain ⟨b, eb⟩ : ∃ b, decide (0 <= n /\ n <= 2147483647) = b := ⟨_, rfl⟩
 rw [eb] at H ⊢
 clear eb
 go_enter Tryd.func64, Tryd.ntmps64
 go_wp2_with fail
 refine (H.out _).mono ?_
 rintro e w1 ⟨rfl, rfl⟩
 go_wp2_with fail
 go_ret
 exact ⟨rfl, rfl⟩
theorem bd_is (n : Int) : max (-2147483647) (min 2147483647 n) = bdC n := by
 unfold bdC; split <;> (try split) <;> omega
theorem mayC_four (x : Scr) : mayC x = (decide (-2147483647 <= x.p /\ x.p <= 2147483647) && (decide (0 <= x.h /\ x.h <= 2147483647) && (decide (0 <= x.o /\ x.o <= 2147483647) && decide (0 <= x.k /\ x.k <= 2147483647)))) := by
 rw [Bool.eq_iff_iff, mayC_iff]
 unfold MayC
 simp only [Bool.and_eq_true, decide_eq_true_eq]
theorem smay_any (x : Scr) (w : World) : Calls Tryd.prog 55 #[cv x] w fun e w' => e = .returned (.bool (mayC x)) /\ Still w w' := by
 have p := newC_cb w x
 have HS := hid (Still.alloc w (.cells (ccs x) 54))
 obtain ⟨c0, c1, c2, c3, cf⟩ := p.cells
 clear p
 have H0 := hid (fun w => xwithin_any x.p (-2147483647) 2147483647 w)
 have H1 := hid (fun w => scount_any x.h w)
 have H2 := hid (fun w => scount_any x.o w)
 have H3 := hid (fun w => scount_any x.k w)
 have HE := hid (mayC_four x)
 obtain ⟨M, eM⟩ : ∃ b, mayC x = b := ⟨_, rfl⟩
 obtain ⟨b0, e0⟩ : ∃ b, decide (-2147483647 <= x.p /\ x.p <= 2147483647) = b := ⟨_, rfl⟩
 obtain ⟨b1, e1⟩ : ∃ b, decide (0 <= x.h /\ x.h <= 2147483647) = b := ⟨_, rfl⟩
 obtain ⟨b2, e2⟩ : ∃ b, decide (0 <= x.o /\ x.o <= 2147483647) = b := ⟨_, rfl⟩
 obtain ⟨b3, e3⟩ : ∃ b, decide (0 <= x.k /\ x.k <= 2147483647) = b := ⟨_, rfl⟩
 rw [eM, e0, e1, e2, e3] at HE
 rw [eM]
 rw [e0] at H0
 rw [e1] at H1
 rw [e2] at H2
 rw [e3] at H3
 clear eM e0 e1 e2 e3
 cases b0 with
 | false =>
  go_enter Tryd.func55, Tryd.ntmps55
  go_wp2_with fail
  refine (H0.out _).mono ?_
  rintro e w1 ⟨rfl, rfl⟩
  go_wp2_with fail
  go_ret
  exact ⟨by rw [HE.out]; rfl, HS.out⟩
 | true =>
  cases b1 with
  | false =>
   go_enter Tryd.func55, Tryd.ntmps55
   go_wp2_with fail
   refine (H0.out _).mono ?_
   rintro e w1 ⟨rfl, rfl⟩
   go_wp2_with fail
   refine (H1.out _).mono ?_
   rintro e w2 ⟨rfl, rfl⟩
   go_wp2_with fail
   go_ret
   exact ⟨by rw [HE.out]; rfl, HS.out⟩
  | true =>
   cases b2 with
   | false =>
    go_enter Tryd.func55, Tryd.ntmps55
    go_wp2_with fail
    refine (H0.out _).mono ?_
    rintro e w1 ⟨rfl, rfl⟩
    go_wp2_with fail
    refine (H1.out _).mono ?_
    rintro e w2 ⟨rfl, rfl⟩
    go_wp2_with fail
    refine (H2.out _).mono ?_
    rintro e w3 ⟨rfl, rfl⟩
    go_wp2_with fail
    go_ret
    exact ⟨by rw [HE.out]; rfl, HS.out⟩
   | true =>
    go_enter Tryd.func55, Tryd.ntmps55
    go_wp2_with fail
    refine (H0.out _).mono ?_
    rintro e w1 ⟨rfl, rfl⟩
    go_wp2_with fail
    refine (H1.out _).mono ?_
    rintro e w2 ⟨rfl, rfl⟩
    go_wp2_with fail
    refine (H2.out _).mono ?_
    rintro e w3 ⟨rfl, rfl⟩
    go_wp2_with fail
    refine (H3.out _).mono ?_
    rintro e w4 ⟨rfl, rfl⟩
    go_wp2_with fail
    go_ret
    exact ⟨by rw [HE.out]; rfl, HS.out⟩
def F2C (w0 w : World) (a x : Scr) : Prop := Cb w w0.heap.size a /\ Cb w (w0.heap.size + 1) x /\ Still w0 w
theorem F2C.new (w : World) (a : Scr) : F2C w (newC (newC w a) zC) a zC := by
 have A0 := Still.alloc w (.cells (ccs a) 54)
 have A1 := Still.alloc (newC w a) (.cells (ccs zC) 54)
 have q0 := newC_cb (newC w a) zC
 simp only [size_alloc] at q0
 exact ⟨(newC_cb w a).still A1, q0, A0.trans A1⟩
theorem F2C.on {w0 w w' : World} {a x : Scr} (h : F2C w0 w a x) (hs : Still w w') : F2C w0 w' a x := ⟨h.1.still hs, h.2.1.still hs, h.2.2.trans hs⟩
theorem F2C.setA {w0 w : World} {a x a' : Scr} (h : F2C w0 w a x) (o : Nat) (v : Value) (ha : Cb (w.setCell ⟨w0.heap.size, o, none⟩ v) w0.heap.size a') : F2C w0 (w.setCell ⟨w0.heap.size, o, none⟩ v) a' x :=
 ⟨ha, h.2.1.other _ _ _ (by omega), h.2.2.setCell _ _ (.inr (Nat.le_refl _))⟩
theorem Cb.res1 {fn : Func} {p : Tmp} {w : World} {g : Nat} {x : Scr} (hb : Cb w g x) (h : fn.results = #[.cell p 54]) (tmps : Array Value) (hp : tmps.getD p undef = .pointer (some ⟨g, 0, none⟩)) :
  (results fn tmps).run Tryd.prog w = .ok (cv x) w := by
 have hp' : tmps[p]?.getD undef = .pointer (some ⟨g, 0, none⟩) := by simpa using hp
 simp [results, h, hp', asAddr, hb.load]
end Go.Proofs.YtdljmpjfiggdiaaDoor
namespace Go.Proofs.YtdljmpjfiggdiaaDoor
open Go.RowKit
open Ea
set_option maxRecDepth 100000
end Go.Proofs.YtdljmpjfiggdiaaDoor
namespace Go.Proofs.YtdljmpjfiggdiaaDoor
open Go.RowKit
open Ea
set_option maxRecDepth 100000
theorem F4.putA {w0 w : World} {a b x y : Scr} (h : F4 w0 w a b x y) (p q r s : Int) : F4 w0 ((((w.setCell ⟨w0.heap.size, 0, none⟩ (.int .i64 p)).setCell ⟨w0.heap.size, 1, none⟩ (.int .i64 q)).setCell ⟨w0.heap.size, 2, none⟩ (.int .i64 r)).setCell ⟨w0.heap.size, 3, none⟩ (.int .i64 s)) ⟨p, q, r, s⟩ b x y :=
 ⟨h.1.put _ _ _ _, h.2.1.others (by omega) _ _ _ _, h.2.2.1.others (by omega) _ _ _ _, h.2.2.2.1.others (by omega) _ _ _ _, (((h.2.2.2.2.setCell _ _ (.inr (Nat.le_refl _))).setCell _ _ (.inr (Nat.le_refl _))).setCell _ _ (.inr (Nat.le_refl _))).setCell _ _ (.inr (Nat.le_refl _))⟩
theorem F4.putB {w0 w : World} {a b x y : Scr} (h : F4 w0 w a b x y) (p q r s : Int) : F4 w0 ((((w.setCell ⟨w0.heap.size + 1, 0, none⟩ (.int .i64 p)).setCell ⟨w0.heap.size + 1, 1, none⟩ (.int .i64 q)).setCell ⟨w0.heap.size + 1, 2, none⟩ (.int .i64 r)).setCell ⟨w0.heap.size + 1, 3, none⟩ (.int .i64 s)) a ⟨p, q, r, s⟩ x y :=
 ⟨h.1.others (by omega) _ _ _ _, h.2.1.put _ _ _ _, h.2.2.1.others (by omega) _ _ _ _, h.2.2.2.1.others (by omega) _ _ _ _, (((h.2.2.2.2.setCell _ _ (.inr (by simp))).setCell _ _ (.inr (by simp))).setCell _ _ (.inr (by simp))).setCell _ _ (.inr (by simp))⟩
theorem bdC_more {p n m : Int} (hp : -2147483647 <= p) (hn : 0 <= n) (hm : 0 <= m) : bdC (bdC (p + n) + m) = bdC (p + (n + m)) := by
 unfold bdC
 split <;> (try split) <;> (try split) <;> (try split) <;> omega
end Go.Proofs.YtdljmpjfiggdiaaDoor
namespace Go.Proofs.YtdljmpjfiggdiaaDoor
open Go.RowKit
open Ea
set_option maxRecDepth 100000
theorem pair_exC (w : World) (X Y : Scr) : ∃ W1 W2 W3, (w.alloc (.cells #[.int .i64 0, .int .i64 0, .int .i64 0, .int .i64 0] 54)).alloc (.cells #[.int .i64 0, .int .i64 0, .int .i64 0, .int .i64 0] 54) = W1 /\ (((W1.setCell ⟨w.heap.size, 0, none⟩ (.int .i64 X.p)).setCell ⟨w.heap.size, 1, none⟩ (.int .i64 X.h)).setCell ⟨w.heap.size, 2, none⟩ (.int .i64 X.o)).setCell ⟨w.heap.size, 3, none⟩ (.int .i64 X.k) = W2 /\ (((W2.setCell ⟨w.heap.size + 1, 0, none⟩ (.int .i64 Y.p)).setCell ⟨w.heap.size + 1, 1, none⟩ (.int .i64 Y.h)).setCell ⟨w.heap.size + 1, 2, none⟩ (.int .i64 Y.o)).setCell ⟨w.heap.size + 1, 3, none⟩ (.int .i64 Y.k) = W3 /\ Cb W1 w.heap.size zC /\ Cb W2 (w.heap.size + 1) zC /\ Cb W3 w.heap.size X /\ Cb W3 (w.heap.size + 1) Y /\ Still w W3 := by
 have B1 := Still.alloc w (.cells (ccs zC) 54)
 have B2 := Still.alloc (newC w zC) (.cells (ccs zC) 54)
 have r1 := (newC_cb w zC).still B2
 have s1 := newC_cb (newC w zC) zC
 simp only [size_alloc] at s1
 have h1 := B1.trans B2
 obtain ⟨W1, eW1⟩ : ∃ W, (w.alloc (.cells (ccs zC) 54)).alloc (.cells (ccs zC) 54) = W := ⟨_, rfl⟩
 have r1' : Cb W1 w.heap.size zC := by rw [<- eW1]; exact r1
 have s1' : Cb W1 (w.heap.size + 1) zC := by rw [<- eW1]; exact s1
 have h1' : Still w W1 := by rw [<- eW1]; exact h1
 have r2 := r1'.put X.p X.h X.o X.k
 have s2 := s1'.others (k := w.heap.size) (by omega) X.p X.h X.o X.k
 have h2 := setC_frC (setC_frC (setC_frC (setC_frC h1' w.heap.size 0 (.int .i64 X.p) (Nat.le_refl _)) w.heap.size 1 (.int .i64 X.h) (Nat.le_refl _)) w.heap.size 2 (.int .i64 X.o) (Nat.le_refl _)) w.heap.size 3 (.int .i64 X.k) (Nat.le_refl _)
 refine ⟨W1, _, _, eW1, rfl, rfl, r1', s2, ?_, ?_, ?_⟩
 ·exact r2.others (k := w.heap.size + 1) (by omega) Y.p Y.h Y.o Y.k
 ·exact s2.put Y.p Y.h Y.o Y.k
 ·exact setC_frC (setC_frC (setC_frC (setC_frC h2 (w.heap.size + 1) 0 (.int .i64 Y.p) (Nat.le_succ _)) (w.heap.size + 1) 1 (.int .i64 Y.h) (Nat.le_succ _)) (w.heap.size + 1) 2 (.int .i64 Y.o) (Nat.le_succ _)) (w.heap.size + 1) 3 (.int .i64 Y.k) (Nat.le_succ _)
def InN (n : Int) : Prop := -9223372036854775808 <= n /\ n <= 9223372036854775807
def InC (x : Scr) : Prop := InN x.p /\ InN x.h /\ InN x.o /\ InN x.k
theorem may_inC {x : Scr} (h : MayC x) : InC x := by
 obtain ⟨h1, h2, h3, h4⟩ := h
 refine ⟨⟨?_, ?_⟩, ⟨?_, ?_⟩, ⟨?_, ?_⟩, ?_, ?_⟩ <;> omega
theorem a12_hit : hit1 ⟨3, 0, 0, 7⟩ ⟨1, 0, 0, 2⟩ 2 true = ⟨20, 1, 0, 8⟩ /\ hit2 ⟨3, 0, 0, 7⟩ ⟨1, 0, 0, 2⟩ 2 true = ⟨-1, 0, 1, 0⟩ /\ errC ⟨3, 0, 0, 7⟩ ⟨1, 0, 0, 2⟩ 2 = 0 := ⟨by kernel_rfl, by kernel_rfl, by kernel_rfl⟩
theorem a12_gain : gain ⟨0, 0, 0, 0⟩ 5 = ⟨5, 0, 0, 0⟩ /\ errG ⟨0, 0, 0, 0⟩ 5 = 0 := ⟨by kernel_rfl, by kernel_rfl⟩
theorem a12_rnk : rnkA [⟨1, 0, 0, 0⟩, ⟨5, 0, 0, 0⟩] = [1, 0] /\ errR [⟨1, 0, 0, 0⟩, ⟨5, 0, 0, 0⟩] = 0 := ⟨by kernel_rfl, by kernel_rfl⟩
theorem a12_chk : chkC ⟨0, -1, 0, 0⟩ = 120 := by kernel_rfl
theorem inN_small {n : Int} (h1 : -1000 <= n) (h2 : n <= 1000) : InN n := ⟨by omega, by omega⟩
theorem rd_twoC (w : World) (a b : Scr) : RdG KC (w.alloc (.cells #[.int .i64 a.p, .int .i64 a.h, .int .i64 a.o, .int .i64 a.k, .int .i64 b.p, .int .i64 b.h, .int .i64 b.o, .int .i64 b.k] 54)) (some ⟨w.heap.size, 0, none⟩) 2 [a, b] := by
 have h : OwG KC 54 (w.alloc (.cells #[.int .i64 a.p, .int .i64 a.h, .int .i64 a.o, .int .i64 a.k, .int .i64 b.p, .int .i64 b.h, .int .i64 b.o, .int .i64 b.k] 54)) w.heap.size (.slice (some ⟨w.heap.size, 0, none⟩) 2 2) ([a, b] ++ []) :=
  World.ownsRow_lit (base := w.heap.size) (e := 54) (size := 4) w #[.int .i64 a.p, .int .i64 a.h, .int .i64 a.o, .int .i64 a.k, .int .i64 b.p, .int .i64 b.h, .int .i64 b.o, .int .i64 b.k] 2 (Nat.le_refl _) (by unfold maxLen; omega) rfl
 exact h.rd (show 2 <= 281474976710656 by decide)
end Go.Proofs.YtdljmpjfiggdiaaDoor
namespace Go.Proofs.YtdljmpjfiggdiaaDoor
open Go.RowKit
open Ea
set_option maxRecDepth 100000
theorem all_may {L : List Scr} (h : ∀ i, i < L.length -> MayC (sc L i)) : L.all mayC = true := by
 rw [List.all_eq_true]
 intro x hx
 obtain ⟨i, hi, rfl⟩ := List.mem_iff_getElem.1 hx
 rw [<- sc_at hi]
 exact mayC_iff.2 (h i hi)
theorem all_not {L : List Scr} {k : Nat} (hk : k < L.length) (h : ¬ MayC (sc L k)) : L.all mayC = false := by
 cases e : L.all mayC with
 | false => rfl
 | true =>
  rw [List.all_eq_true] at e
  exact absurd (mayC_iff.1 (e _ (List.getElem_mem hk))) (by rw [<- sc_at hk]; exact h)
set_option maxHeartbeats 1000000 in
theorem sall_any (L : List Scr) (ao : Option Addr) (n cap : Nat) (w : World) (hr : RdG KC w ao n L) : Calls Tryd.prog 47 #[.slice ao n cap] w fun e w' => e = .returned (.bool (L.all mayC)) /\ Still w w' := by
 have HR := hid hr
 have h47 : n <= 281474976710656 := hr.2.1
 have HL : Hid (n = L.length) := hid (by have := hr.1; omega)
 clear hr
 go_enter Tryd.func47, Tryd.ntmps47
 go_wp2_with fail
 go_loopw [7] (fun u wr => ∃ k : Nat, k <= n /\ u = .int .i64 (k : Int) /\ Hid (∀ i, i < k -> MayC (sc L i)) /\ Still w wr) (fun u _ => n - (intOf u).toNat)
 case atStart => exact ⟨0, by omega, rfl, hid (fun i hi => by omega), Fr.refl _ _⟩
 case round =>
  obtain ⟨k, hk, rfl, HK, hs⟩ := hrel
  by_cases hkn : k < n
  ·have hlt : (k : Int) < (n : Int) := by omega
   have hr1 := HR.out.still hs
   obtain ⟨B, o, rfl⟩ := hr1.at (by omega)
   obtain ⟨c0, c1, c2, c3⟩ := rdC hr1 hkn
   have HM := hid (fun u => smay_any (sc L k) u)
   by_cases hm : MayC (sc L k)
   ·rw [mayC_iff.2 hm] at HM
    have HE := hid (show ∀ i, i < k + 1 -> MayC (sc L i) from fun i hi => by
     by_cases e : i = k
     ·subst e; exact hm
     ·exact HK.out i (by omega))
    obtain ⟨x, ex⟩ : ∃ x, sc L k = x := ⟨_, rfl⟩
    rw [ex] at c0 c1 c2 c3 HM
    obtain ⟨e0, e1, e2, e3, ef⟩ := (newC_cb wr x).cells
    have HS1 := hid (hs.trans (Still.alloc wr (.cells (ccs x) 54)))
    clear hs hr1 hm HK ex
    go_wp2_with fail
    refine (HM.out _).mono ?_
    rintro e w1 ⟨rfl, h1⟩
    have HS2 := hid (HS1.out.trans h1)
    clear h1 HS1 c0 c1 c2 c3 e0 e1 e2 e3 ef
    go_wp2_with fail
    go_roundw
    case rel => exact ⟨k + 1, by omega, by go_num, HE, HS2.out⟩
    case measure => simp [intOf]; omega
   ·rw [mayC_no hm] at HM
    have HE := hid (all_not (L := L) (k := k) (by have := HL.out; omega) hm)
    obtain ⟨x, ex⟩ : ∃ x, sc L k = x := ⟨_, rfl⟩
    rw [ex] at c0 c1 c2 c3 HM
    obtain ⟨e0, e1, e2, e3, ef⟩ := (newC_cb wr x).cells
    have HS1 := hid (hs.trans (Still.alloc wr (.cells (ccs x) 54)))
    clear hs hr1 hm HK ex
    go_wp2_with fail
    refine (HM.out _).mono ?_
    rintro e w1 ⟨rfl, h1⟩
    have HS2 := hid (HS1.out.trans h1)
    clear h1 HS1 c0 c1 c2 c3 e0 e1 e2 e3 ef
    go_wp2_with fail
    (first | rw [Exit.noGoto_ret] | skip)
    go_ret
    exact ⟨by rw [HE.out]; rfl, HS2.out⟩
  ·have hge : ¬ (k : Int) < (n : Int) := by omega
   have HE := hid (all_may (L := L) (fun i hi => HK.out i (by have := HL.out; omega)))
   have HS1 := hid hs
   clear hs HK
   go_wp2_with fail
   go_ret
   exact ⟨by rw [HE.out]; rfl, HS1.out⟩
theorem srank_many (L : List Scr) (ao : Option Addr) (n cap : Nat) (h6 : 6 < n) (w : World) (hr : RdG KC w ao n L) : Calls Tryd.prog 24 #[.slice ao n cap] w fun e w' => ∃ bo m cp, e = .returned (.tuple #[.slice bo m cp, .int .i64 (errR L)]) /\ OwI 3 w' bo m cp (rnkA L) /\ Still w w' /\ ∀ a, bo = some a -> w.heap.size <= a.block := by
 have h6' : (6 : Int) < (n : Int) := by omega
 have h47 : n <= 281474976710656 := hr.2.1
 have HE : Hid (errR L = 120 /\ rnkA L = []) := hid (by
  have e : rnkE L = false := by
   cases e : rnkE L with
   | false => rfl
   | true => have := (rnkE_iff.1 e).1; have := hr.1; omega
  exact ⟨by unfold errR; rw [e]; rfl, by unfold rnkA; rw [e]; rfl⟩)
 clear hr
 go_enter Tryd.func24, Tryd.ntmps24
 go_wp2_with fail
 go_ret2
 refine ⟨none, 0, 0, by rw [HE.out.1]; rfl, ?_, Fr.refl _ _, fun a h => by cases h⟩
 rw [HE.out.2]
 exact OwI.empty _ _
theorem srank_not (L : List Scr) (ao : Option Addr) (n cap : Nat) (h6 : n <= 6) (hn : L.all mayC = false) (w : World) (hr : RdG KC w ao n L) : Calls Tryd.prog 24 #[.slice ao n cap] w fun e w' => ∃ bo m cp, e = .returned (.tuple #[.slice bo m cp, .int .i64 (errR L)]) /\ OwI 3 w' bo m cp (rnkA L) /\ Still w w' /\ ∀ a, bo = some a -> w.heap.size <= a.block := by
 have h6' : decide ((6 : Int) < (n : Int)) = false := by simp; omega
 have HA := hid (sall_any L ao n cap w hr)
 rw [hn] at HA
 have HE : Hid (errR L = 120 /\ rnkA L = []) := hid (by
  have e : rnkE L = false := by unfold rnkE; rw [hn]; simp
  exact ⟨by unfold errR; rw [e]; rfl, by unfold rnkA; rw [e]; rfl⟩)
 clear hr hn
 go_enter Tryd.func24, Tryd.ntmps24
 go_wp2_with fail
 refine HA.out.mono ?_
 rintro e w1 ⟨rfl, h1⟩
 have HS := hid h1
 clear h1 HA
 go_wp2_with fail
 go_ret2
 refine ⟨none, 0, 0, by rw [HE.out.1]; rfl, ?_, HS.out, fun a h => by cases h⟩
 rw [HE.out.2]
 exact OwI.empty _ _
set_option maxHeartbeats 2000000 in
theorem srank_yes (L : List Scr) (ao : Option Addr) (n cap : Nat) (h6 : n <= 6) (hn : L.all mayC = true) (w : World) (hr : RdG KC w ao n L) : Calls Tryd.prog 24 #[.slice ao n cap] w fun e w' => ∃ bo m cp, e = .returned (.tuple #[.slice bo m cp, .int .i64 (errR L)]) /\ OwI 3 w' bo m cp (rnkA L) /\ Still w w' /\ ∀ a, bo = some a -> w.heap.size <= a.block := by
  have h6' : decide ((6 : Int) < (n : Int)) = false := by simp; omega
  have HA := hid (sall_any L ao n cap w hr)
  rw [hn] at HA
  have HL : Hid (n = L.length) := hid (by have := hr.1; omega)
  have HE : Hid (errR L = 0 /\ rnkA L = rnk L) := hid (by
    have e : rnkE L = true := by unfold rnkE; rw [hn]; have := HL.out; simp; omega
    exact ⟨by unfold errR; rw [e]; rfl, by unfold rnkA; rw [e]; rfl⟩)
  have HR := hid hr
  have hmk : ∀ W : World, (Instr.makeSlice 69 (.int .i64 (n : Int)) (.int .i64 (n : Int))).run Tryd.prog W = .ok (.slice (some ⟨W.heap.size, 0, none⟩) n n) (W.alloc (.cells (madeCells #[.int .i64 0] n) 3)) := fun W =>
    run_make_row' (P := Tryd.prog) 69 3 (.int .i64 0) 8 Tryd.underlying69 info_int rfl .i64 .i64 n (by omega) (by omega) W
  have HNew := hid (fun (W : World) => (OwI.fresh W (madeCells #[.int .i64 0] n) n n (List.replicate n 0) (by simp) (Nat.le_refl _) (by unfold maxLen; omega) (by rw [size_madeCells]) (fun j hj => by
      simp at hj
      simp [madeCells, hj]
      rw [Nat.mod_one]; rfl) : OwI 3 (W.alloc (.cells (madeCells #[.int .i64 0] n) 3)) (some ⟨W.heap.size, 0, none⟩) n n (List.replicate n 0)))
  obtain ⟨CS, hCS⟩ : ∃ CS, CS = madeCells #[.int .i64 0] n := ⟨_, rfl⟩
  rw [<- hCS] at HNew
  simp only [<- hCS] at hmk
  clear hCS hr hn
  go_enter Tryd.func24, Tryd.ntmps24
  go_wp2_with fail
  refine HA.out.mono ?_
  rintro e w1 ⟨rfl, h1⟩
  have HS1 := hid h1
  have HO := hid (HNew.out w1)
  have HS2 := hid (h1.trans (Still.alloc w1 (.cells CS 3)))
  have HG := hid h1.size
  obtain ⟨g, eg⟩ : ∃ g, w1.heap.size = g := ⟨_, rfl⟩
  rw [eg] at HO HG
  clear h1 HA HNew
  go_wp2_with fail
  (try rw [eg])
  clear hmk eg
  go_loopw [19] (fun vi wr => ∃ k : Nat, k <= n /\ vi = .int .i64 (k : Int) /\ OwI 3 wr (some ⟨g, 0, none⟩) n n (Rg.upTo k ++ List.replicate (n - k) 0) /\ Still w wr) (fun vi _ => n - (intOf vi).toNat)
  case atStart => exact ⟨0, Nat.zero_le _, rfl, by simpa [Rg.upTo] using HO.out, HS2.out⟩
  case round =>
    obtain ⟨k, hk, rfl, ho, hst⟩ := hrel
    by_cases hlt : k < n
    · obtain ⟨⟨v, hv⟩, hfz⟩ := ho.cellAt hlt
      have hlt' : (k : Int) < (n : Int) := by omega
      have R := ho.set (x := (k : Int)) hlt
      rw [fill_step hlt] at R
      have R2 := hst.setCell ⟨g, k, none⟩ (.int .i64 (k : Int)) (.inr HG.out)
      have H2 := hid (And.intro R R2)
      clear ho hst R R2 HO HS1 HS2
      go_wp2_with fail
      go_roundw
      case rel => exact ⟨k + 1, by omega, by go_num, H2.out.1, H2.out.2⟩
      case measure => simp [intOf]; omega
    · have hge : ¬ (k : Int) < (n : Int) := by omega
      obtain rfl : k = n := by omega
      have ho1 : OwI 3 wr (some ⟨g, 0, none⟩) k k (Rg.upTo k) := by simpa using ho
      have HC := hid (ssort_any L ao k cap g (by omega) w wr HR.out HG.out hst (Rg.upTo k) (plc_up k) ho1)
      clear ho hst ho1 HO HS1 HS2 hlt
      go_wp2_with fail
      refine HC.out.mono ?_
      rintro e w3 ⟨rfl, h3⟩
      have H3 : Hid (OwI 3 w3 (some ⟨g, 0, none⟩) k k (rnk L) /\ Still w w3) := hid (by
        obtain ⟨R', p1, p2, p3, p4⟩ := h3
        rw [HL.out] at p1 p2
        rw [<- srt_done p1 p2]
        exact ⟨p3, p4⟩)
      clear h3 HC
      go_wp2_with fail
      go_ret2
      refine ⟨_, _, _, by rw [HE.out.1]; rfl, ?_, H3.out.2, fun a h => by cases h; exact HG.out⟩
      rw [HE.out.2]
      exact H3.out.1
theorem srank_any (L : List Scr) (ao : Option Addr) (n cap : Nat) (w : World) (hr : RdG KC w ao n L) : Calls Tryd.prog 24 #[.slice ao n cap] w fun e w' => ∃ bo m cp, e = .returned (.tuple #[.slice bo m cp, .int .i64 (errR L)]) /\ OwI 3 w' bo m cp (rnkA L) /\ Still w w' /\ ∀ a, bo = some a -> w.heap.size <= a.block := by
 by_cases h6 : n <= 6
 ·cases hn : L.all mayC with
  | true => exact srank_yes L ao n cap h6 hn w hr
  | false => exact srank_not L ao n cap h6 hn w hr
 ·exact srank_many L ao n cap (by omega) w hr
end Go.Proofs.YtdljmpjfiggdiaaDoor
