/- The contract of the document's reading of digits. -/
import Derived.Test.YtihcicijoeplkaaDoorRPrint
import Derived.Test.YtihcicijoeplkaaDoorVp
namespace Go.Proofs.YtihcicijoeplkaaDoor
open Go.ChangeShapes Go.WideShapes Go.ChangeAt Go.RowKit
open Pu

set_option maxHeartbeats 2000000 in
theorem value_any (s : ByteArray) (hs : s.size ≤ maxLen) (w : World) :
    Calls Tryd.prog 44 #[.string s] w fun e w' => e = .returned (.int .i64 (valL 0 0 0 s.data.toList)) ∧ w' = w := by
  unfold maxLen at hs
  go_enter Tryd.func44, Tryd.ntmps44
  go_wp2
  go_loop [3, 4, 5, 6] (fun a b c i => ∃ (k : Nat) (wh re sc : Int), k ≤ s.size ∧ a = .int .i64 wh ∧ b = .int .i64 re ∧ c = .int .i64 sc ∧ i = .int .i64 k ∧ 0 ≤ wh ∧ wh ≤ 21474836479 ∧ RB re sc ∧ valL wh re sc (s.data.toList.drop k) = valL 0 0 0 s.data.toList) (fun _ _ _ i => s.size - (intOf i).toNat)
  case atStart => exact ⟨0, 0, 0, 0, by omega, rfl, rfl, rfl, rfl, by omega, by omega, ⟨by omega, Or.inl ⟨rfl, rfl⟩⟩, rfl⟩
  case round =>
    obtain ⟨k, wh, re, sc, hk, rfl, rfl, rfl, rfl, hw0, hw1, hrb, hv⟩ := hrel
    obtain ⟨r1, r2, r3, r4⟩ := hrb.bd
    have HRB := Lib.hid hrb
    clear hrb
    by_cases hlt : k < s.size
    · rw [drop_cons s k hlt, valL] at hv
      have b1 : (s[k].toNat : Int) ≤ 255 := by have := s[k].toNat_lt; omega
      by_cases c1 : s[k].toNat = 46 ∧ sc = 0
      · rw [if_pos c1] at hv
        have HV := Lib.hid hv
        clear hv
        obtain ⟨c1, c2⟩ := c1
        subst c2
        have t1 : ((s[k].toNat : Int) == 46) = true := by rw [c1]; rfl
        clear c1
        go_wp2
        go_round
        case rel => exact ⟨k + 1, wh, re, 1, by omega, rfl, rfl, rfl, by go_num, hw0, hw1, HRB.out.one, HV.out⟩
        case measure => simp [intOf]; omega
      · rw [if_neg c1] at hv
        by_cases c2 : s[k].toNat < 48 ∨ 57 < s[k].toNat ∨ 8 < sc ∨ 2147483647 < wh
        · rw [if_pos c2] at hv
          have HV := Lib.hid hv
          clear hv
          by_cases d1 : s[k].toNat = 46
          · have t1 : ((s[k].toNat : Int) == 46) = true := by rw [d1]; rfl
            have t2 : (sc == 0) = false := by simp; omega
            have t3 : (s[k].toNat : Int) < 48 := by omega
            clear c1 c2 d1
            go_wp2
            go_ret
            exact ⟨ret_int HV.out, rfl⟩
          · have t1 : ((s[k].toNat : Int) == 46) = false := by simp; omega
            by_cases d2 : (s[k].toNat : Int) < 48
            · clear c1 c2 d1
              go_wp2
              go_ret
              exact ⟨ret_int HV.out, rfl⟩
            · by_cases d3 : 57 < (s[k].toNat : Int)
              · clear c1 c2 d1
                go_wp2
                go_ret
                exact ⟨ret_int HV.out, rfl⟩
              · by_cases d4 : 8 < sc
                · clear c1 c2 d1
                  go_wp2
                  go_ret
                  exact ⟨ret_int HV.out, rfl⟩
                · have d5 : 2147483647 < wh := by omega
                  clear c1 c2 d1
                  go_wp2
                  go_ret
                  exact ⟨ret_int HV.out, rfl⟩
        · rw [if_neg c2] at hv
          have g1 : 48 ≤ (s[k].toNat : Int) := by omega
          have g2 : (s[k].toNat : Int) ≤ 57 := by omega
          have g3 : sc ≤ 8 := by omega
          have g4 : wh ≤ 2147483647 := by omega
          have t1 : ((s[k].toNat : Int) == 46) = false := by simp; omega
          clear c1 c2
          by_cases c3 : sc = 0
          · rw [if_pos c3] at hv
            subst c3
            have HV := Lib.hid hv
            clear hv
            go_wp2
            go_round
            case rel => exact ⟨k + 1, 10 * wh + s[k].toNat - 48, re, 0, by omega, rfl, rfl, rfl, by go_num, by omega, by omega, HRB.out, HV.out⟩
            case measure => simp [intOf]; omega
          · rw [if_neg c3] at hv
            have HV := Lib.hid hv
            have t2 : (sc == 0) = false := by simpa using c3
            have hn := HRB.out.next (d := s[k].toNat - 48) c3 g3 (by omega) (by omega)
            rw [show 10 * re + ((s[k].toNat : Int) - 48) = 10 * re + s[k].toNat - 48 by omega] at hn
            have HN := Lib.hid hn
            clear hv c3 hn
            go_wp2
            go_round
            case rel => exact ⟨k + 1, wh, 10 * re + s[k].toNat - 48, sc + 1, by omega, rfl, rfl, rfl, by go_num, by omega, by omega, HN.out, HV.out⟩
            case measure => simp [intOf]; omega
    · rw [List.drop_of_length_le (by rw [← Lib.size_eq]; omega), valL] at hv
      have HV := Lib.hid hv
      clear hv
      go_wp2
      go_loop [4, 5] (fun b c => ∃ (p q : Int), b = .int .i64 p ∧ c = .int .i64 q ∧ RB p q ∧ valEnd wh p q = valL 0 0 0 s.data.toList) (fun _ c => (9 - intOf c).toNat)
      case atStart => exact ⟨re, sc, rfl, rfl, HRB.out, HV.out⟩
      case round =>
        obtain ⟨p, q, rfl, rfl, hpq, hve⟩ := hrel
        obtain ⟨p1, p2, q1, q2⟩ := hpq.bd
        have HPQ := Lib.hid hpq
        clear hpq
        by_cases e1 : 1 ≤ q ∧ q ≤ 8
        · obtain ⟨e1, e2⟩ := e1
          rw [← valEnd_step e1 e2] at hve
          have HVE := Lib.hid hve
          clear hve
          go_wp2
          go_round
          case rel => exact ⟨10 * p, q + 1, rfl, rfl, HPQ.out.ten e1 e2, HVE.out⟩
          case measure => simp [intOf]; omega
        · rw [valEnd_last (by omega)] at hve
          have q0 : q = 0 ∨ q = 9 := by omega
          by_cases f1 : 8388607 < wh
          · rw [if_pos (Or.inl f1)] at hve
            have HVE := Lib.hid hve
            clear hve e1
            rcases q0 with rfl | rfl
            · go_wp2
              go_ret
              exact ⟨ret_int HVE.out, rfl⟩
            · go_wp2
              go_ret
              exact ⟨ret_int HVE.out, rfl⟩
          · by_cases f2 : p % 390625 = 0
            · rw [if_neg (by omega)] at hve
              have HVE := Lib.hid hve
              have f3 : (p % 390625 != 0) = false := by simp [f2]
              clear hve e1 f2
              rcases q0 with rfl | rfl
              · go_wp2
                go_ret
                exact ⟨ret_int HVE.out, rfl⟩
              · go_wp2
                go_ret
                exact ⟨ret_int HVE.out, rfl⟩
            · rw [if_pos (Or.inr f2)] at hve
              have HVE := Lib.hid hve
              have f3 : (p % 390625 != 0) = true := by simp [f2]
              clear hve e1 f2
              rcases q0 with rfl | rfl
              · go_wp2
                go_ret
                exact ⟨ret_int HVE.out, rfl⟩
              · go_wp2
                go_ret
                exact ⟨ret_int HVE.out, rfl⟩
end Go.Proofs.YtihcicijoeplkaaDoor
