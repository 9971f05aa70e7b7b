/- The contract of fixed.read: any text. -/
import Derived.Test.YtihcicijoeplkaaDoorText
import Derived.Laws.RangeAny
namespace Go.Proofs.YtihcicijoeplkaaDoor
open Go.ChangeShapes Go.WideShapes Go.ChangeAt Go.RowKit
open Pu

def readV : Option Int → Value
  | none => .tuple #[.int .i64 0, .bool false]
  | some n => .tuple #[.int .i64 n, .bool true]
theorem drop_cons (s : ByteArray) (pos : Nat) (h : pos < s.size) : s.data.toList.drop pos = s[pos] :: s.data.toList.drop (pos + 1) := by
  rw [List.drop_eq_getElem_cons (by simpa using h)]; rfl
theorem ret_iv {a b : Int} {o : Option Int} (h : o = some b) (e : a = b) : Ending.returned (.tuple #[.int .i64 a, .bool true]) = .returned (readV o) := by rw [h, e]; rfl
theorem ret_nv {o : Option Int} (h : o = none) : Ending.returned (.tuple #[.int .i64 0, .bool false]) = .returned (readV o) := by rw [h]; rfl

set_option maxHeartbeats 1000000 in
theorem read_any (s : ByteArray) (hs : s.size ≤ maxLen) (w : World) :
    Calls Tryd.prog 42 #[.string s] w fun e w' => e = .returned (readV (readS s.data.toList)) ∧ Below w.heap.size w w' := by
  unfold maxLen at hs
  have hk0 : (w.iter s 0).heap[w.heap.size]? = some (.stringIter s 0) := World.iter_heap w s 0
  have hb0 : Below w.heap.size w (w.iter s 0) := (Below.refl _ w).alloc (Nat.le_refl _) _
  go_enter Tryd.func42, Tryd.ntmps42
  go_wp2
  go_loopw [4, 5, 6, 7] (fun sg wh pa pl wr => ∃ (pos : Nat) (a b c d : Int), pos ≤ s.size ∧ wr.heap[w.heap.size]? = some (.stringIter s pos) ∧ sg = .int .i64 a ∧ wh = .int .i64 b ∧ pa = .int .i64 c ∧ pl = .int .i64 d ∧ -1 ≤ a ∧ a ≤ 1 ∧ 0 ≤ b ∧ b ≤ 8388607 ∧ Tens d ∧ 0 ≤ c ∧ c + d ≤ 100000000 ∧ (d = 0 → c = 0) ∧ readL (pos == 0) a b c d (s.data.toList.drop pos) = readS s.data.toList ∧ Below w.heap.size w wr)
    (fun _ _ _ _ wr => s.size - wr.iterPos w.heap.size)
  case atStart => exact ⟨0, 1, 0, 0, 0, Nat.zero_le _, hk0, rfl, rfl, rfl, rfl, by omega, by omega, by omega, by omega, Or.inl rfl, by omega, by omega, fun _ => rfl, rfl, hb0⟩
  case round =>
    obtain ⟨pos, a, b, c, d, hps, hk, rfl, rfl, rfl, rfl, ha1, ha2, hb1, hb2, hd, hc1, hc2, hc3, hrd, hnx⟩ := hrel
    have HC := Lib.hid hc3
    clear hc3
    clear hk0 hb0
    obtain ⟨hd1, hd2⟩ := hd.bd
    have HD := Lib.hid hd
    clear hd
    have hmu := Lib.hid (show wr.iterPos w.heap.size = pos by simp [World.iterPos, hk])
    by_cases hp : pos < s.size
    · rw [drop_cons s pos hp] at hrd
      by_cases hasc : (s[pos]'hp).toNat < 128
      · have hnext : ∀ ty, (Instr.next (.pointer (some ⟨w.heap.size, 0, none⟩)) true ty).run Tryd.prog wr = _ := fun ty => Lib.run_next_ascii_at wr w.heap.size s pos ty hk hp hasc
        have hk1 := Lib.iterAt_heap wr w.heap.size s pos (pos + 1) hk
        have hnx1 : Below w.heap.size w (wr.iterAt w.heap.size s (pos + 1)) := Lib.below_iterAt hnx (by omega) s (pos + 1)
        have hmu1 := Lib.hid (show (wr.iterAt w.heap.size s (pos + 1)).iterPos w.heap.size = pos + 1 by simp [World.iterPos, hk1])
        generalize wr.iterAt w.heap.size s (pos + 1) = W1 at hnext hk1 hnx1 hmu1
        rw [readL] at hrd
        have HK := Lib.hid hk1
        have HN := Lib.hid hnx1
        clear hk1 hnx1 hk hnx
        obtain ⟨B, hB⟩ : ∃ B : Nat, B = (s[pos]'hp).toNat := ⟨_, rfl⟩
        rw [← hB] at hnext hrd hasc
        clear hB
        by_cases c1 : B = 45 ∧ (pos == 0) = true
        · rw [if_pos c1] at hrd
          have HR := Lib.hid hrd
          clear hrd
          obtain ⟨c1, c2⟩ := c1
          have c2' : pos = 0 := by simpa using c2
          clear c2
          subst c1
          subst c2'
          go_wp2
          go_roundw
          case rel => exact ⟨0 + 1, -1, b, c, d, by omega, HK.out, rfl, rfl, rfl, rfl, by omega, by omega, hb1, hb2, HD.out, hc1, hc2, HC.out, HR.out, HN.out⟩
          case measure => rw [hmu.out, hmu1.out]; omega
        · rw [if_neg c1] at hrd
          have n1 : ¬ (B = 45 ∧ pos = 0) := fun h => c1 ⟨h.1, by simpa using h.2⟩
          clear c1
          by_cases c2 : B = 46 ∧ d = 0
          · rw [if_pos c2] at hrd
            have HR := Lib.hid hrd
            clear hrd n1
            obtain ⟨c1, c2⟩ := c2
            subst c1
            subst c2
            have hc0 := HC.out rfl
            have HC0 := Lib.hid hc0
            clear hc0
            go_wp2
            go_roundw
            case rel => exact ⟨pos + 1, a, b, c, 100000000, by omega, HK.out, rfl, rfl, rfl, rfl, ha1, ha2, hb1, hb2, by unfold Tens; omega, hc1, by have := HC0.out; omega, fun h => by omega, HR.out, HN.out⟩
            case measure => rw [hmu.out, hmu1.out]; omega
          · rw [if_neg c2] at hrd
            by_cases c3 : B < 48 ∨ 57 < B ∨ d = 1
            · rw [if_pos c3] at hrd
              have HR := Lib.hid hrd
              clear hrd
              by_cases k1 : B = 45
              · subst k1
                have k2 : 1 ≤ pos := by omega
                clear n1 c2 c3
                go_wp2
                go_ret2
                exact ⟨ret_nv HR.out.symm, HN.out⟩
              · by_cases k3 : B = 46
                · subst k3
                  have k2 : 1 ≤ d := by omega
                  clear n1 c2 c3 k1
                  go_wp2
                  go_ret2
                  exact ⟨ret_nv HR.out.symm, HN.out⟩
                · have t1 : ((B : Int) == 45) = false := by simp; omega
                  have t2 : ((B : Int) == 46) = false := by simp; omega
                  clear n1 c2 k1 k3
                  by_cases k4 : B < 48
                  · clear c3
                    go_wp2
                    go_ret2
                    exact ⟨ret_nv HR.out.symm, HN.out⟩
                  · by_cases k5 : 57 < B
                    · clear c3
                      go_wp2
                      go_ret2
                      exact ⟨ret_nv HR.out.symm, HN.out⟩
                    · have k6 : d = 1 := by omega
                      subst k6
                      clear c3
                      go_wp2
                      go_ret2
                      exact ⟨ret_nv HR.out.symm, HN.out⟩
            · rw [if_neg c3] at hrd
              clear n1 c2
              have g1 : 48 ≤ B := by omega
              have g2 : B ≤ 57 := by omega
              have g3 : d ≠ 1 := by omega
              clear c3
              by_cases c4 : d = 0
              · rw [if_pos c4] at hrd
                subst c4
                by_cases c5 : 8388607 < 10 * b + ((B : Int) - 48)
                · rw [if_pos c5] at hrd
                  have HR := Lib.hid hrd
                  clear hrd g3
                  go_wp2
                  go_ret2
                  exact ⟨ret_nv HR.out.symm, HN.out⟩
                · rw [if_neg c5] at hrd
                  have HR := Lib.hid hrd
                  clear hrd g3
                  go_wp2
                  go_roundw
                  case rel => exact ⟨pos + 1, a, 10 * b + ((B : Int) - 48), c, 0, by omega, HK.out, rfl, rfl, rfl, rfl, ha1, ha2, by omega, by omega, Or.inl rfl, hc1, by omega, HC.out, HR.out, HN.out⟩
                  case measure => rw [hmu.out, hmu1.out]; omega
              · rw [if_neg c4] at hrd
                have HR := Lib.hid hrd
                clear hrd
                obtain ⟨u1, u2⟩ := HD.out.tenth c4 g3
                have HU := Lib.hid u1
                have v1 : 1 ≤ d / 10 := by omega
                clear u1
                obtain ⟨m1, m2⟩ := mul_digit (p := d / 10) (d := (B : Int) - 48) (by omega) (by omega) (by omega)
                have u3 : 10 * (d / 10) ≤ d := by omega
                have g4 : 2 ≤ d := by omega
                have g5 : (d == 1) = false := by simp; omega
                have g6 : (d == 0) = false := by simp; omega
                clear u2 g3 c4
                go_wp2
                go_roundw
                case rel => exact ⟨pos + 1, a, b, c + d / 10 * ((B : Int) - 48), d / 10, by omega, HK.out, rfl, rfl, rfl, rfl, ha1, ha2, hb1, hb2, HU.out, by omega, by omega, fun h => by omega, HR.out, HN.out⟩
                case measure => rw [hmu.out, hmu1.out]; omega
      · have hd1 := decode_high s pos hp (by omega)
        have hnext : ∀ ty, (Instr.next (.pointer (some ⟨w.heap.size, 0, none⟩)) true ty).run Tryd.prog wr = _ := fun ty => Lib.run_next_any_at wr w.heap.size s pos ty hk hp
        have hnx1 : Below w.heap.size w (wr.iterAt w.heap.size s (pos + (Utf8.decode s pos).2)) := Lib.below_iterAt hnx (by omega) s _
        generalize wr.iterAt w.heap.size s (pos + (Utf8.decode s pos).2) = W1 at hnext hnx1
        obtain ⟨R, hR⟩ : ∃ R : Nat, R = (Utf8.decode s pos).1 := ⟨_, rfl⟩
        rw [← hR] at hnext hd1
        obtain ⟨hR1, _⟩ := hd1
        clear hR
        have HN := Lib.hid hnx1
        rw [readL, if_neg (by omega), if_neg (by omega), if_pos (by omega)] at hrd
        have HR := Lib.hid hrd
        clear hrd hnx1 hnx hasc hk
        go_wp2
        go_ret2
        exact ⟨ret_nv HR.out.symm, HN.out⟩
    · rw [List.drop_of_length_le (by rw [← Lib.size_eq]; omega), readL] at hrd
      have HR := Lib.hid hrd
      have HN := Lib.hid hnx
      clear hrd hnx
      have hnext : ∀ ty, (Instr.next (.pointer (some ⟨w.heap.size, 0, none⟩)) true ty).run Tryd.prog wr = _ := fun ty => Lib.run_next_end_at wr w.heap.size s pos ty hk hp
      have q1 : 0 ≤ c / 390625 := by omega
      have q2 : c / 390625 ≤ 256 := by omega
      obtain ⟨m1, m2⟩ : -2147483648 ≤ a * (b * 256 + c / 390625) ∧ a * (b * 256 + c / 390625) ≤ 2147483648 := by
        have h : (a * (b * 256 + c / 390625)).natAbs ≤ 1 * 2147483648 := by
          rw [Int.natAbs_mul]; exact Nat.mul_le_mul (by omega) (by omega)
        omega
      go_wp2
      go_ret2
      exact ⟨ret_iv HR.out.symm rfl, HN.out⟩
end Go.Proofs.YtihcicijoeplkaaDoor
