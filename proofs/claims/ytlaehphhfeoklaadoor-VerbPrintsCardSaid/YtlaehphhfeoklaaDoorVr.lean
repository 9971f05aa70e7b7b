/- The document's Print. -/
import Derived.Test.YtlaehphhfeoklaaDoorVm
namespace Go.Proofs.YtlaehphhfeoklaaDoor
open Go.RowKit
open Vp
set_option maxRecDepth 100000

/-- the text so far -/
def acc (nm : ByteArray) (G : Nat → Int) : Nat → ByteArray
  | 0 => nm
  | k + 1 => acc nm G k ++ ⟨#[32]⟩ ++ numB (G k)
theorem numB_sz (n : Int) : (numB n).size ≤ 4 := by
  unfold numB numN
  show Array.size _ ≤ 4
  repeat' split
  all_goals simp
theorem acc_sz (nm : ByteArray) (G : Nat → Int) : ∀ k, (acc nm G k).size ≤ nm.size + 5 * k
  | 0 => by rw [acc]; omega
  | k + 1 => by
    have := acc_sz nm G k
    have := numB_sz (G k)
    rw [acc, ByteArray.size_append, ByteArray.size_append, show (⟨#[32]⟩ : ByteArray).size = 1 from rfl]
    omega
theorem acc_prn {v a b c : Int} (h : isV v = true) : acc (nmV v) (gv a b c) (opV v).length = prn v a b := by
  rcases verbs h with rfl | rfl | rfl | rfl | rfl | rfl | rfl
  · show nmV 1 ++ ⟨#[32]⟩ ++ numB a ++ ⟨#[32]⟩ ++ numB b = _
    unfold prn
    rw [if_neg (by decide), if_pos rfl]
    simp only [ByteArray.append_assoc]
  · show nmV 2 = _
    unfold prn
    rw [if_pos rfl, if_neg (by decide)]
    simp only [ByteArray.append_empty]
  all_goals
    unfold prn
    rw [if_neg (by decide), if_neg (by decide), ByteArray.append_empty, ← ByteArray.append_assoc]
    rfl
theorem gv_in {v a b c : Int} (h : chkO v a b c = 0) (k : Nat) : -1000 < gv a b c k ∧ gv a b c k < 1000 := by
  unfold chkO at h
  split at h
  · rename_i hv
    split at h
    · rename_i ho
      unfold okO at ho
      simp only [Bool.and_eq_true, decide_eq_true_eq] at ho
      obtain ⟨⟨⟨h1, h2⟩, h3⟩, h4⟩ := ho
      have hb : -8 ≤ b ∧ b ≤ 8 := by
        split at h3
        · simpa using h3
        · have := of_decide_eq_true h3; omega
      have ha : -8 ≤ a ∧ a ≤ 255 := by
        rcases verbs hv with rfl | rfl | rfl | rfl | rfl | rfl | rfl <;> simp [lo, hi, loL, hiL] at h1 h2 <;> omega
      match k with
      | 0 => simp only [gv, List.getD_cons_zero]; omega
      | 1 => simp only [gv, List.getD_cons_zero, List.getD_cons_succ]; omega
      | 2 => simp only [gv, List.getD_cons_zero, List.getD_cons_succ]; omega
      | k + 3 => simp [gv]
    · cases h
  · cases h
theorem chk_is {v a b c : Int} (h : chkO v a b c = 0) : isV v = true := by
  unfold chkO at h
  split at h
  · assumption
  · cases h
theorem nmV_sz (v : Int) : (nmV v).size ≤ 10 := by
  unfold nmV
  split
  · rename_i h
    rcases verbs h with rfl | rfl | rfl | rfl | rfl | rfl | rfl <;> decide
  · decide
theorem opV_len (v : Int) : (opV v).length ≤ 2 := by
  unfold opV
  repeat' split
  all_goals simp
theorem rprt_no (v a b c x : Int) (hx : chkO v a b c = x) (h0 : x ≠ 0) (w : World) (ht : RTab w) : Calls Tryd.prog 18 #[od v a b c] w fun e w' => e = .returned (.tuple #[.string ByteArray.empty, .int .i64 x]) ∧ Still w w' := by
  have p := newO_orb w v a b c
  have HS0 := hid (Still.alloc w (.cells #[.int .i64 v, .int .i64 a, .int .i64 b, .int .i64 c] 32))
  have H := hid (rchk_any v a b c _ (ht.still HS0.out))
  rw [hx] at H
  have hb : (x != 0) = true := by simpa using h0
  obtain ⟨c0, c1, c2, c3, cf⟩ := p.cells
  clear hx h0
  go_enter Tryd.func18, Tryd.ntmps18
  go_wp2_with fail
  refine H.out.mono ?_
  rintro e w1 ⟨rfl, h1⟩
  have HS1 := hid (HS0.out.trans h1)
  clear HS0 h1
  go_wp2_with fail
  go_ret2
  exact ⟨rfl, HS1.out⟩
set_option maxHeartbeats 2000000 in
theorem rprt_yes (v a b c : Int) (hx : chkO v a b c = 0) (w : World) (ht : RTab w) (hN : NTab w) : Calls Tryd.prog 18 #[od v a b c] w fun e w' => e = .returned (.tuple #[.string (prn v a b), .int .i64 0]) ∧ Still w w' := by
  have p := newO_orb w v a b c
  have HS0 := hid (Still.alloc w (.cells #[.int .i64 v, .int .i64 a, .int .i64 b, .int .i64 c] 32))
  have H := hid (rchk_any v a b c _ (ht.still HS0.out))
  rw [hx] at H
  have HP := hid (acc_prn (a := a) (b := b) (c := c) (chk_is hx))
  have HG := hid (fun k => gv_in hx k)
  have HZ := hid (fun k => acc_sz (nmV v) (gv a b c) k)
  have HZ2 := hid (And.intro (nmV_sz v) (opV_len v))
  obtain ⟨T, eT⟩ : ∃ T, prn v a b = T := ⟨_, rfl⟩
  obtain ⟨nm, enm⟩ : ∃ n, nmV v = n := ⟨_, rfl⟩
  obtain ⟨ps, eps⟩ : ∃ ps, opV v = ps := ⟨_, rfl⟩
  rw [eT] at HP ⊢
  rw [enm] at HP HZ HZ2
  rw [eps] at HP HZ2
  have HNM := hid enm
  have HPS := hid eps
  obtain ⟨c0, c1, c2, c3, cf⟩ := p.cells
  clear hx eT enm eps
  go_enter Tryd.func18, Tryd.ntmps18
  go_wp2_with fail
  refine H.out.mono ?_
  rintro e w1 ⟨rfl, h1⟩
  have p1 := p.still h1
  have HS1 := hid (HS0.out.trans h1)
  clear HS0 h1 p c0 c1 c2 c3 cf H
  obtain ⟨c0, c1, c2, c3, cf⟩ := p1.cells
  go_wp2_with fail
  refine (rname_any v _ (hN.still HS1.out)).mono ?_
  rintro e w2 ⟨he, hw⟩
  rw [he, hw, HNM.out]
  clear he hw w2
  go_wp2_with fail
  refine (roper_any v _ (ht.still HS1.out)).mono ?_
  rintro e w2 ⟨x, rfl, ho, h2⟩
  rw [HPS.out] at ho
  have q2 := p1.still h2
  have HS2 := hid (HS1.out.trans h2)
  clear HS1 h2 p1 c0 c1 c2 c3 cf
  obtain ⟨c0, c1, c2, c3, cf⟩ := q2.cells
  have p2 := newArr w2 a b c
  have o2 := ho.alloc (.cells #[.int .i64 a, .int .i64 b, .int .i64 c] 41)
  have HSW := hid (HS2.out.trans (Still.alloc w2 (.cells #[.int .i64 a, .int .i64 b, .int .i64 c] 41)))
  obtain ⟨ao, cap, rfl, _⟩ := o2.slice
  obtain ⟨n, en⟩ : ∃ n, ps.length = n := ⟨_, rfl⟩
  rw [en] at HP HZ2 ⊢
  clear ho en o2 HS2
  go_wp2_with fail
  go_loopw [5, 8] (fun t u wr => ∃ k : Nat, k ≤ n ∧ u = .int .i64 (k : Int) ∧ t = .string (acc nm (gv a b c) k) ∧ Still (w2.alloc (.cells #[.int .i64 a, .int .i64 b, .int .i64 c] 41)) wr) (fun _ u _ => n - (intOf u).toNat)
  case atStart => exact ⟨0, by omega, rfl, rfl, Fr.refl _ _⟩
  case round =>
    clear c0 c1 c2 c3 cf
    obtain ⟨k, hk, rfl, rfl, hs⟩ := hrel
    have hz2 := HZ2.out
    have hz := HZ.out k
    by_cases hkn : k < n
    · have q3 := p2.still hs
      have k0 := q3.at k (by omega)
      have hi3 : (k : Int) < 3 := by omega
      have hlt : (k : Int) < (n : Int) := by omega
      have hg := HG.out k
      obtain ⟨y, ey⟩ : ∃ y, gv a b c k = y := ⟨_, rfl⟩
      have hsa : (acc nm (gv a b c) k).size ≤ 30 := by omega
      have HA := hid (show acc nm (gv a b c) (k + 1) = acc nm (gv a b c) k ++ ⟨#[32]⟩ ++ numB y by rw [acc, ey])
      obtain ⟨A, eA⟩ : ∃ A, acc nm (gv a b c) k = A := ⟨_, rfl⟩
      rw [ey] at k0 hg
      rw [eA] at hsa HA ⊢
      have hs32 : (A ++ (⟨#[32]⟩ : ByteArray)).size ≤ 31 := by rw [ByteArray.size_append, show (⟨#[32]⟩ : ByteArray).size = 1 from rfl]; omega
      have HS3 := hid hs
      clear hs ey eA hz hz2 q3
      go_wp2_with fail
      refine (rnum_any y hg.1 hg.2 _).mono ?_
      rintro e w3 ⟨rfl, h3⟩
      have HS4 := hid (Still.trans HS3.out h3)
      have hsn := numB_sz y
      clear h3 HS3 k0
      go_wp2_with fail
      go_roundw
      case rel => exact ⟨k + 1, by omega, by go_num, by rw [HA.out], HS4.out⟩
      case measure => simp [intOf]; omega
    · obtain rfl : k = n := by omega
      have HS3 := hid hs
      rw [HP.out]
      clear hs hz hz2
      go_wp2_with fail
      go_ret2
      exact ⟨rfl, Still.trans HSW.out HS3.out⟩
theorem rprt_any (v a b c : Int) (w : World) (ht : RTab w) (hN : NTab w) : Calls Tryd.prog 18 #[od v a b c] w fun e w' => e = .returned (.tuple #[.string (prnO v a b c), .int .i64 (chkO v a b c)]) ∧ Still w w' := by
  unfold prnO
  by_cases h : chkO v a b c = 0
  · rw [if_pos h, h]; exact rprt_yes v a b c h w ht hN
  · rw [if_neg h]; exact rprt_no v a b c _ rfl h w ht
end Go.Proofs.YtlaehphhfeoklaaDoor
