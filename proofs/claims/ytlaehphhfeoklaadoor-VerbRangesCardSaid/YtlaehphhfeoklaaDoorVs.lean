/- The document's Parse. -/
import Derived.Test.YtlaehphhfeoklaaDoorVr
namespace Go.Proofs.YtlaehphhfeoklaaDoor
open Go.RowKit
open Vp
set_option maxRecDepth 100000

/-- what Parse answers -/
def PV (s : ByteArray) (v a b c e : Int) : Prop :=
  (e = 0 ∧ chkO v a b c = 0 ∧ prn v a b = s) ∨ (e = 72 ∧ v = 0 ∧ a = 0 ∧ b = 0 ∧ c = 0 ∧ ∀ v a b c, chkO v a b c = 0 → prn v a b ≠ s)
theorem pv_one {s : ByteArray} {v a b c e v' a' b' c' e' : Int} (h : PV s v a b c e) (k : PV s v' a' b' c' e') : v = v' ∧ a = a' ∧ b = b' ∧ c = c' ∧ e = e' := by
  rcases h with ⟨rfl, h1, h2⟩ | ⟨rfl, rfl, rfl, rfl, rfl, h⟩ <;> rcases k with ⟨rfl, k1, k2⟩ | ⟨rfl, rfl, rfl, rfl, rfl, k⟩
  · obtain ⟨e1, e2, e3, e4⟩ := prnO_inj h1 k1 (h2.trans k2.symm)
    exact ⟨e1, e2, e3, e4, rfl⟩
  · exact absurd h2 (k _ _ _ _ h1)
  · exact absurd k2 (h _ _ _ _ k1)
  · exact ⟨rfl, rfl, rfl, rfl, rfl⟩
theorem ex_front (a b : ByteArray) : (a ++ b).extract 0 a.size = a := by
  apply ByteArray.ext
  simp
theorem prn_front {v a b : Int} {s : ByteArray} (h : prn v a b = s) : (nmV v).size ≤ s.size ∧ s.extract 0 (nmV v).size = nmV v := by
  subst h
  unfold prn
  rw [ByteArray.append_assoc]
  exact ⟨by rw [ByteArray.size_append]; omega, ex_front _ _⟩
theorem chk_in {v a b c : Int} (h : chkO v a b c = 0) : 1 ≤ v ∧ v ≤ 7 ∧ lo (v - 1).toNat ≤ a ∧ a ≤ hi (v - 1).toNat ∧ -8 ≤ b ∧ b ≤ 8 ∧ c = 0 := by
  have hv := isV_iff.1 (chk_is h)
  unfold chkO at h
  rw [if_pos (isV_iff.2 hv)] at h
  split at h
  · rename_i ho
    unfold okO at ho
    simp only [Bool.and_eq_true, decide_eq_true_eq] at ho
    obtain ⟨⟨⟨h1, h2⟩, h3⟩, h4⟩ := ho
    have hb : -8 ≤ b ∧ b ≤ 8 := by
      split at h3
      · simpa using h3
      · have := of_decide_eq_true h3; omega
    exact ⟨hv.1, hv.2, h1, h2, hb.1, hb.2, h4⟩
  · cases h
theorem str_t {x y : ByteArray} (h : x = y) : (x.toList == y.toList) = true := by subst h; exact beq_self_eq_true _
theorem str_f {x y : ByteArray} (h : ¬ x = y) : (x.toList == y.toList) = false := by
  cases e : (x.toList == y.toList) with
  | false => rfl
  | true =>
    have := eq_of_beq e
    rw [Lib.toList_data, Lib.toList_data] at this
    exact absurd (ByteArray.ext (Array.toList_inj.1 this)) h
theorem lohi (d : Nat) : -8 ≤ lo d ∧ hi d ≤ 255 ∧ lo d ≤ hi d := by
  match d with
  | 0 => decide
  | 1 => decide
  | 2 => decide
  | 3 => decide
  | 4 => decide
  | 5 => decide
  | 6 => decide
  | d + 7 => simp [lo, hi, loL, hiL]
set_option maxHeartbeats 8000000 in
set_option maxRecDepth 100000 in
theorem rpar_any (s : ByteArray) (w : World) (ht : RTab w) (hN : NTab w) : Calls Tryd.prog 20 #[.string s] w fun e w' => ∃ v a b c x, e = .returned (.tuple #[od v a b c, .int .i64 x]) ∧ PV s v a b c x ∧ Still w w' := by
  have p := newO_orb w 0 0 0 0
  have HS0 := hid (Still.alloc w (.cells #[.int .i64 0, .int .i64 0, .int .i64 0, .int .i64 0] 32))
  go_enter Tryd.func20, Tryd.ntmps20
  go_wp2_with fail
  go_loopw [4] (fun u wr => ∃ k : Nat, 1 ≤ k ∧ k ≤ 8 ∧ u = .int .i64 (k : Int) ∧ Hid (∀ v a b c, v < (k : Int) → chkO v a b c = 0 → prn v a b ≠ s) ∧ Still (newO w 0 0 0 0) wr) (fun u _ => 8 - (intOf u).toNat)
  case atStart => exact ⟨1, by omega, by omega, rfl, hid (fun v a b c h1 h2 => by have := (chk_in h2).1; omega), Fr.refl _ _⟩
  case round =>
    obtain ⟨k, hk1, hk8, rfl, HF, hs⟩ := hrel
    have HS1 := hid (HS0.out.trans hs)
    have p1 := p.still hs
    have HSr := hid hs
    clear hs
    by_cases h8 : k < 8
    · have hle : (k : Int) ≤ 7 := by omega
      go_wp2_with fail
      refine (rname_any (k : Int) _ (hN.still HS1.out)).mono ?_
      rintro e w2 ⟨he, hw⟩
      rw [he, hw]
      clear he hw w2
      have HPF := hid (fun (a b : Int) (h : prn (k : Int) a b = s) => prn_front h)
      have hnz := nmV_sz (k : Int)
      obtain ⟨nm, enm⟩ : ∃ nm, nmV (k : Int) = nm := ⟨_, rfl⟩
      rw [enm] at HPF hnz ⊢
      clear enm
      by_cases hsz : s.size < nm.size
      · have hlt : (s.size : Int) < (nm.size : Int) := by omega
        have HN := hid (show ∀ v a b c, v < ((k + 1 : Nat) : Int) → chkO v a b c = 0 → prn v a b ≠ s from fun v a b c h1 h2 h3 => by
          by_cases e : v = (k : Int)
          · subst e
            have := (HPF.out a b h3).1
            omega
          · exact HF.out v a b c (by omega) h2 h3)
        go_wp2_with fail
        go_roundw
        case rel => exact ⟨k + 1, by omega, by omega, by go_num, HN, HSr.out⟩
        case measure => simp [intOf]; omega
      · have hge : ¬ (s.size : Int) < (nm.size : Int) := by omega
        have hle2 : (nm.size : Int) ≤ (s.size : Int) := by omega
        by_cases hpre : s.extract 0 nm.size = nm
        · have hb := str_t hpre
          have hd7 : k - 1 < 7 := by omega
          have HD := hid (show ((k : Int) - 1).toNat = k - 1 by omega)
          have m0 := (ht.still HS1.out).lo (k - 1) hd7
          have hLH := lohi (k - 1)
          have HLH := hid (fun (a b c : Int) (h : chkO (k : Int) a b c = 0) => (chk_in h))
          rw [HD.out] at HLH
          have HT := hid (fun (u : World) (h : Still wr u) => (((ht.still HS1.out).still h).hi (k - 1) hd7))
          obtain ⟨L, eL⟩ : ∃ L, lo (k - 1) = L := ⟨_, rfl⟩
          obtain ⟨M, eM⟩ : ∃ M, hi (k - 1) = M := ⟨_, rfl⟩
          rw [eL] at m0 hLH HLH
          rw [eM] at hLH HLH HT
          clear eL eM hpre
          obtain ⟨L0, M0, LM⟩ := hLH
          go_wp2_with fail
          go_loopw [6] (fun u w2 => ∃ A : Int, L ≤ A ∧ A ≤ M + 1 ∧ u = .int .i64 A ∧ Hid (∀ a b c, a < A → chkO (k : Int) a b c = 0 → prn (k : Int) a b ≠ s) ∧ Still wr w2) (fun u _ => (M + 1 - intOf u).toNat)
          case atStart => exact ⟨L, by omega, by omega, rfl, hid (fun a b c h1 h2 => by have := (HLH.out a b c h2).2.2.1; omega), Fr.refl _ _⟩
          case round =>
            obtain ⟨A, hA0, hA1, rfl, HA, hs2⟩ := hrel
            have HS2 := hid (HS1.out.trans hs2)
            have p2 := p1.still hs2
            have m1 := HT.out _ hs2
            have HSr2 := hid (Still.trans HSr.out hs2)
            have HSw2 := hid hs2
            clear m0 hs2
            rename World => W2
            by_cases hAM : A ≤ M
            · go_wp2_with fail
              go_loopw [7] (fun u w3 => ∃ B : Int, -8 ≤ B ∧ B ≤ 9 ∧ u = .int .i64 B ∧ Hid (∀ b c, b < B → chkO (k : Int) A b c = 0 → prn (k : Int) A b ≠ s) ∧ Still W2 w3) (fun u _ => (9 - intOf u).toNat)
              case atStart => exact ⟨-8, by omega, by omega, rfl, hid (fun b c h1 h2 => by have := (chk_in h2).2.2.2.2.1; omega), Fr.refl _ _⟩
              case round =>
                obtain ⟨B, hB0, hB1, rfl, HB, hs3⟩ := hrel
                have HS3 := hid (Still.trans HS2.out hs3)
                have p3 := p2.still hs3
                have HSr3 := hid (Still.trans HSr2.out hs3)
                have HSw3 := hid (Still.trans HSw2.out hs3)
                have HSv3 := hid hs3
                clear m1 hs3
                rename World => W3
                by_cases hB9 : B ≤ 8
                · have A3 := Still.alloc W3 (.cells #[.int .i64 (k : Int), .int .i64 A, .int .i64 B, .int .i64 0] 32)
                  have q3 := newO_orb W3 (k : Int) A B 0
                  have p4 := p3.still A3
                  have HS4 := hid (Still.trans HS3.out A3)
                  have HSv4 := hid (Still.trans HSv3.out A3)
                  clear A3 p3
                  obtain ⟨c0, c1, c2, c3, cf⟩ := q3.cells
                  go_wp2_with fail
                  refine (rprt_any (k : Int) A B 0 _ (ht.still HS4.out) (hN.still HS4.out)).mono ?_
                  rintro e w5 ⟨rfl, h5⟩
                  have q5 := q3.still h5
                  have p5 := p4.still h5
                  have HS5 := hid (Still.trans HS4.out h5)
                  have HSv5 := hid (Still.trans HSv4.out h5)
                  clear q3 p4 c0 c1 c2 c3 cf h5 HS4 HSv4
                  by_cases hc : chkO (k : Int) A B 0 = 0
                  · have hT : prnO (k : Int) A B 0 = prn (k : Int) A B := if_pos hc
                    rw [hc, hT]
                    by_cases hp : prn (k : Int) A B = s
                    · have HC := hid (And.intro hc hp)
                      rw [hp]
                      clear hc hT hp
                      obtain ⟨c0, c1, c2, c3, cf⟩ := q5.cells
                      obtain ⟨e0, e1, e2, e3, ef⟩ := p5.cells
                      have HSz := hid (setO_fr HS5.out w.heap.size (k : Int) A B 0 (.inr (Nat.le_refl _)))
                      go_wp2_with fail
                      (try simp only [Exit.inBlock, Exit.then])
                      exact bodyPost_ret ((p5.set (k : Int) A B 0).rest rfl _ _ rfl rfl) rfl ⟨(k : Int), A, B, 0, 0, rfl, .inl ⟨rfl, HC.out.1, HC.out.2⟩, HSz.out⟩
                    · have hb2 := str_f hp
                      have HN := hid (show ∀ b c, b < B + 1 → chkO (k : Int) A b c = 0 → prn (k : Int) A b ≠ s from fun b c h1 h2 => by
                        by_cases e : b = B
                        · rw [e]; exact hp
                        · exact HB.out b c (by omega) h2)
                      obtain ⟨T, eT⟩ : ∃ T, prn (k : Int) A B = T := ⟨_, rfl⟩
                      rw [eT] at hb2 ⊢
                      clear hc hT hp eT
                      go_wp2_with fail
                      go_roundw
                      case rel => exact ⟨B + 1, by omega, by omega, rfl, HN, HSv5.out⟩
                      case measure => simp [intOf]; omega
                  · have HN := hid (show ∀ b c, b < B + 1 → chkO (k : Int) A b c = 0 → prn (k : Int) A b ≠ s from fun b c h1 h2 => by
                      by_cases e : b = B
                      · subst e
                        have := (chk_in h2).2.2.2.2.2.2
                        subst this
                        exact absurd h2 hc
                      · exact HB.out b c (by omega) h2)
                    obtain ⟨T, eT⟩ : ∃ T, prnO (k : Int) A B 0 = T := ⟨_, rfl⟩
                    obtain ⟨x, ex⟩ : ∃ x, chkO (k : Int) A B 0 = x := ⟨_, rfl⟩
                    rw [ex] at hc
                    rw [eT, ex]
                    have hx : (x == 0) = false := by simpa using hc
                    clear eT ex
                    go_wp2_with fail
                    go_roundw
                    case rel => exact ⟨B + 1, by omega, by omega, rfl, HN, HSv5.out⟩
                    case measure => simp [intOf]; omega
                · have hgt2 : ¬ B ≤ 8 := hB9
                  have HN := hid (show ∀ a b c, a < A + 1 → chkO (k : Int) a b c = 0 → prn (k : Int) a b ≠ s from fun a b c h1 h2 => by
                    by_cases e : a = A
                    · subst e
                      exact HB.out b c (by have := (chk_in h2).2.2.2.2.2.1; omega) h2
                    · exact HA.out a b c (by omega) h2)
                  go_wp2_with fail
                  go_roundw
                  case rel => exact ⟨A + 1, by omega, by omega, rfl, HN, HSw3.out⟩
                  case measure => simp [intOf]; omega
            · have hgt2 : ¬ A ≤ M := hAM
              have HN := hid (show ∀ v a b c, v < ((k + 1 : Nat) : Int) → chkO v a b c = 0 → prn v a b ≠ s from fun v a b c h1 h2 => by
                by_cases e : v = (k : Int)
                · subst e
                  exact HA.out a b c (by have := (HLH.out a b c h2).2.2.2.1; omega) h2
                · exact HF.out v a b c (by omega) h2)
              go_wp2_with fail
              go_roundw
              case rel => exact ⟨k + 1, by omega, by omega, by go_num, HN, HSr2.out⟩
              case measure => simp [intOf]; omega
        · have hb := str_f hpre
          have HN := hid (show ∀ v a b c, v < ((k + 1 : Nat) : Int) → chkO v a b c = 0 → prn v a b ≠ s from fun v a b c h1 h2 h3 => by
            by_cases e : v = (k : Int)
            · subst e
              exact hpre (HPF.out a b h3).2
            · exact HF.out v a b c (by omega) h2 h3)
          clear hpre
          go_wp2_with fail
          go_roundw
          case rel => exact ⟨k + 1, by omega, by omega, by go_num, HN, HSr.out⟩
          case measure => simp [intOf]; omega
    · have hgt : ¬ (k : Int) ≤ 7 := by omega
      have HN := hid (show ∀ v a b c, chkO v a b c = 0 → prn v a b ≠ s from fun v a b c h => HF.out v a b c (by have := (chk_in h).2.1; omega) h)
      have HSz := hid (setO_fr HS1.out w.heap.size 0 0 0 0 (.inr (Nat.le_refl _)))
      obtain ⟨c0, c1, c2, c3, cf⟩ := p1.cells
      go_wp2_with fail
      (try simp only [Exit.inBlock, Exit.then])
      exact bodyPost_ret ((p1.set 0 0 0 0).rest rfl _ _ rfl rfl) rfl ⟨0, 0, 0, 0, 72, rfl, .inr ⟨rfl, rfl, rfl, rfl, rfl, HN.out⟩, HSz.out⟩
end Go.Proofs.YtlaehphhfeoklaaDoor
