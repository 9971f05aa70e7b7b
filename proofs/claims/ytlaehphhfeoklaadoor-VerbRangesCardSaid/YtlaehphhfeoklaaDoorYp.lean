/- The program's Print. -/
import Derived.Test.YtlaehphhfeoklaaDoorYi
namespace Go.Proofs.YtlaehphhfeoklaaDoor
open Go.RowKit
open Vp
set_option maxRecDepth 100000

theorem prt_no (v a b c x : Int) (hx : chkO v a b c = x) (h0 : x ≠ 0) (w : World) : Calls Tryd.prog 17 #[od v a b c] w fun e w' => e = .returned (.tuple #[.string ByteArray.empty, .int .i64 x]) ∧ Still w w' := by
  have p := newO_orb w v a b c
  have HS0 := hid (Still.alloc w (.cells #[.int .i64 v, .int .i64 a, .int .i64 b, .int .i64 c] 32))
  have H := hid (fun w => check_any v a b c w)
  rw [hx] at H
  have hb : (x != 0) = true := by simpa using h0
  obtain ⟨c0, c1, c2, c3, cf⟩ := p.cells
  clear hx h0
  go_enter Tryd.func17, Tryd.ntmps17
  go_wp2_with fail
  refine (H.out _).mono ?_
  rintro e w1 ⟨rfl, h1⟩
  have HS1 := hid (HS0.out.trans h1)
  clear HS0 h1
  go_wp2_with fail
  go_ret2
  exact ⟨rfl, HS1.out⟩
theorem chk_gv {v a b c : Int} (h : chkO v a b c = 0) (k : Nat) : -8 ≤ gv a b c k ∧ gv a b c k ≤ 255 := by
  have hv := chk_is h
  unfold chkO at h
  rw [if_pos hv] at h
  split at h
  · rename_i ho
    unfold okO at ho
    simp only [Bool.and_eq_true, decide_eq_true_eq] at ho
    obtain ⟨⟨⟨h1, h2⟩, h3⟩, h4⟩ := ho
    have hb : -8 ≤ b ∧ b ≤ 8 := by
      split at h3
      · simpa using h3
      · have := of_decide_eq_true h3; omega
    have ha : -8 ≤ a ∧ a ≤ 255 := by
      rcases verbs hv with rfl | rfl | rfl | rfl | rfl | rfl | rfl <;> simp [lo, hi, loL, hiL] at h1 h2 <;> omega
    match k with
    | 0 => simp only [gv, List.getD_cons_zero]; omega
    | 1 => simp only [gv, List.getD_cons_zero, List.getD_cons_succ]; omega
    | 2 => simp only [gv, List.getD_cons_zero, List.getD_cons_succ]; omega
    | k + 3 => simp [gv]
  · cases h
set_option maxHeartbeats 2000000 in
theorem prt_yes (v a b c : Int) (hx : chkO v a b c = 0) (w : World) (ht : PTab w) : Calls Tryd.prog 17 #[od v a b c] w fun e w' => e = .returned (.tuple #[.string (prn v a b), .int .i64 0]) ∧ Still w w' := by
  have p := newO_orb w v a b c
  have HS0 := hid (Still.alloc w (.cells #[.int .i64 v, .int .i64 a, .int .i64 b, .int .i64 c] 32))
  have H := hid (fun w => check_any v a b c w)
  rw [hx] at H
  have HP := hid (acc_prn (a := a) (b := b) (c := c) (chk_is hx))
  have HG := hid (fun k => chk_gv hx k)
  have HZ := hid (fun k => acc_sz (nmV v) (gv a b c) k)
  have HZ2 := hid (And.intro (nmV_sz v) (opV_len v))
  have HK := hid (fun w => kind_any v w)
  obtain ⟨T, eT⟩ : ∃ T, prn v a b = T := ⟨_, rfl⟩
  obtain ⟨nm, enm⟩ : ∃ n, nmV v = n := ⟨_, rfl⟩
  obtain ⟨ps, eps⟩ : ∃ ps, opV v = ps := ⟨_, rfl⟩
  rw [eT] at HP ⊢
  rw [enm] at HP HZ HZ2 HK
  rw [eps] at HP HZ2 HK
  obtain ⟨c0, c1, c2, c3, cf⟩ := p.cells
  clear hx eT enm eps
  go_enter Tryd.func17, Tryd.ntmps17
  go_wp2_with fail
  refine (H.out _).mono ?_
  rintro e w1 ⟨rfl, h1⟩
  have p1 := p.still h1
  have HS1 := hid (HS0.out.trans h1)
  clear HS0 h1 p c0 c1 c2 c3 cf H
  obtain ⟨c0, c1, c2, c3, cf⟩ := p1.cells
  go_wp2_with fail
  refine (HK.out _).mono ?_
  rintro e w2 ⟨ao, n, cap, rfl, ho, h2⟩
  obtain ⟨_, _, e, _⟩ := ho.slice
  cases e
  obtain ⟨n, en⟩ : ∃ n, ps.length = n := ⟨_, rfl⟩
  rw [en] at HP HZ2 ⊢
  have A2 := Still.alloc w2 (.cells #[.string nm, .slice ao n cap] 43)
  have p2 := (p1.still h2).still A2
  have k2 := newK_kb w2 nm (.slice ao n cap)
  have HS2 := hid ((HS1.out.trans h2).trans A2)
  clear HS1 h2 p1 c0 c1 c2 c3 cf A2 ho en HK
  obtain ⟨c0, c1, c2, c3, cf⟩ := p2.cells
  go_wp2_with fail
  refine (numbers_any v a b c _).mono ?_
  rintro e w3 ⟨rfl, h3⟩
  have A3 := Still.alloc w3 (.cells #[.int .i64 a, .int .i64 b, .int .i64 c] 41)
  have k3 := (k2.still h3).still A3
  have q3 := newArr w3 a b c
  have HS3 := hid ((HS2.out.trans h3).trans A3)
  clear HS2 h3 p2 c0 c1 c2 c3 cf A3 k2
  obtain ⟨c0, c1, cf⟩ := k3.cells
  go_wp2_with fail
  go_loopw [8, 28] (fun t u wr => ∃ k : Nat, k ≤ n ∧ u = .int .i64 (k : Int) ∧ t = .string (acc nm (gv a b c) k) ∧ Still (w3.alloc (.cells #[.int .i64 a, .int .i64 b, .int .i64 c] 41)) wr) (fun _ u _ => n - (intOf u).toNat)
  case atStart => exact ⟨0, by omega, rfl, rfl, Fr.refl _ _⟩
  case round =>
    clear c0 c1 cf
    obtain ⟨k, hk, rfl, rfl, hs⟩ := hrel
    have hz2 := HZ2.out
    have hz := HZ.out k
    by_cases hkn : k < n
    · have q4 := q3.still hs
      have k0 := q4.at k (by omega)
      have hi3 : (k : Int) < 3 := by omega
      have hlt : (k : Int) < (n : Int) := by omega
      have hg := HG.out k
      obtain ⟨y, ey⟩ : ∃ y, gv a b c k = y := ⟨_, rfl⟩
      have hsa : (acc nm (gv a b c) k).size ≤ 30 := by omega
      have HA := hid (show acc nm (gv a b c) (k + 1) = acc nm (gv a b c) k ++ (⟨#[32]⟩ ++ numB y) by rw [acc, ey, ByteArray.append_assoc])
      obtain ⟨A, eA⟩ : ∃ A, acc nm (gv a b c) k = A := ⟨_, rfl⟩
      rw [ey] at k0 hg
      rw [eA] at hsa HA ⊢
      have hsn := numB_sz y
      have hs32 : ((⟨#[32]⟩ : ByteArray) ++ numB y).size ≤ 5 := by rw [ByteArray.size_append, show (⟨#[32]⟩ : ByteArray).size = 1 from rfl]; omega
      have HS4 := hid hs
      have HT := hid (itoa_any y hg.1 hg.2 wr (ht.still (Still.trans HS3.out hs)))
      clear hs ey eA hz hz2 q4
      go_wp2_with fail
      refine HT.out.mono ?_
      rintro e w5 ⟨rfl, h5⟩
      have HS5 := hid (Still.trans HS4.out h5)
      clear h5 HS4 k0 HT
      go_wp2_with fail
      go_roundw
      case rel => exact ⟨k + 1, by omega, by go_num, by rw [HA.out], HS5.out⟩
      case measure => simp [intOf]; omega
    · obtain rfl : k = n := by omega
      have HS4 := hid hs
      rw [HP.out]
      clear hs hz hz2
      go_wp2_with fail
      go_ret2
      exact ⟨rfl, Still.trans HS3.out HS4.out⟩
theorem prt_any (v a b c : Int) (w : World) (ht : PTab w) : Calls Tryd.prog 17 #[od v a b c] w fun e w' => e = .returned (.tuple #[.string (prnO v a b c), .int .i64 (chkO v a b c)]) ∧ Still w w' := by
  unfold prnO
  by_cases h : chkO v a b c = 0
  · rw [if_pos h, h]; exact prt_yes v a b c h w ht
  · rw [if_neg h]; exact prt_no v a b c _ rfl h w
end Go.Proofs.YtlaehphhfeoklaaDoor
