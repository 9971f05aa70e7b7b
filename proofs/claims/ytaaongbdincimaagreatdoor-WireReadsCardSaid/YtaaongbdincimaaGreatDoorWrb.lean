/- The program's reader of a datagram: a number in full, how far a command is, an order, the end. -/
import Derived.Test.YtaaongbdincimaaGreatDoorWra
namespace Go.Proofs.YtaaongbdincimaaGreatDoor
open Go.RowKit
open Wp Vp
set_option maxRecDepth 100000
set_option linter.unusedVariables false
set_option linter.unusedSimpArgs false

theorem pow7 (i : Nat) (h : i ≤ 7) : 256 ^ i ≤ 72057594037927936 := by
  have : 256 ^ i ≤ 256 ^ 7 := Nat.pow_le_pow_right (by omega) h
  omega
theorem or_byte (a g i : Nat) (ha : a < 256 ^ i) (hg : g < 256) (hi : i ≤ 7) : bits .or .u64 (a : Int) (IntKind.u64.wrap ((g : Int) * 2 ^ (8 * i))) = ((a + g * 256 ^ i : Nat) : Int) := by
  have hp : (2 : Nat) ^ (8 * i) = 256 ^ i := by rw [Nat.pow_mul]
  have hpi : (2 : Int) ^ (8 * i) = ((256 ^ i : Nat) : Int) := by rw [← hp]; simp
  have hle := pow7 i hi
  have hs : g * 256 ^ i ≤ 255 * 256 ^ i := Nat.mul_le_mul_right _ (by omega)
  have hw : IntKind.u64.wrap ((g : Int) * 2 ^ (8 * i)) = ((g * 256 ^ i : Nat) : Int) := by
    rw [hpi, ← Int.natCast_mul]
    exact wraps_u64 _ (by omega) (by omega)
  rw [hw]
  have h := bits_join_low .u64 64 (by decide) wraps_u64 (8 * i) (a : Int) ((g * 256 ^ i : Nat) : Int) (by omega) (by rw [hpi]; omega) (by omega) (by omega)
    (by rw [hpi, ← Int.natCast_emod, Nat.mul_mod_left]; rfl) (by omega)
  rw [h]
  omega
set_option maxHeartbeats 2000000 in
theorem yfull_any (q p : Nat) (ef : Addr) (s : Rs) (w : World) (h : Rz w q p ef s) : Calls Tryz.prog 46 #[.pointer (some ⟨q, 0, none⟩)] w fun r w' => r = .returned (.int .u64 ((fuM 8 0 0 s).1 : Int)) ∧ Tz w w' q p ef (fuM 8 0 0 s).2 := by
  have HH := hid h
  clear h
  go_enter Tryz.func46, Tryz.ntmps46
  go_wp2_with fail
  go_loopw [3, 4, 5] (fun u3 u4 u5 wr => ∃ (i acc : Nat) (s1 : Rs), i ≤ 8 ∧ u3 = .int .u64 (acc : Int) ∧ u5 = .int .i64 (i : Int) ∧ Hid (Tz w wr q p ef s1 ∧ fuM (8 - i) i acc s1 = fuM 8 0 0 s ∧ acc < 256 ^ i)) (fun _ _ u5 _ => 8 - (intOf u5).toNat)
  case atStart => exact ⟨0, 0, s, by omega, rfl, rfl, hid ⟨Tz.same HH.out (Fr.refl _ _), rfl, by simp⟩⟩
  case round =>
    obtain ⟨i, acc, s1, hi, rfl, rfl, HL⟩ := hrel
    by_cases hin : i < 8
    · have hlt : (i : Int) < 8 := by omega
      have c0 := HL.out.1.r.ptr
      have HC := hid (ybyte_any q p ef s1 wr HL.out.1.r)
      have HF : Hid (fuM (8 - (i + 1)) (i + 1) (acc + (byM s1).1.toNat * 256 ^ i) (byM s1).2 = fuM 8 0 0 s) := hid (by
        rw [← HL.out.2.1, show 8 - i = (8 - (i + 1)) + 1 by omega]
        rfl)
      obtain ⟨c, S, ec⟩ : ∃ c S, byM s1 = (c, S) := ⟨_, _, rfl⟩
      rw [ec] at HC HF
      dsimp only at HC HF
      have hc8 := c.toNat_lt
      have HO := hid (or_byte acc c.toNat i HL.out.2.2 (by omega) (by omega))
      have HA : Hid (acc + c.toNat * 256 ^ i < 256 ^ (i + 1)) := hid (by
        have h1 := HL.out.2.2
        have : c.toNat * 256 ^ i ≤ 255 * 256 ^ i := Nat.mul_le_mul_right _ (by omega)
        rw [Nat.pow_succ]
        omega)
      unfold nm at HC
      obtain ⟨z, ez⟩ : ∃ z, c.toNat = z := ⟨_, rfl⟩
      rw [ez] at HC HF hc8 HO HA
      have hcv : IntKind.u64.wrap (z : Int) = (z : Int) := by rw [IntKind.wrap_u64]; omega
      clear ec ez
      go_wp2_with fail
      refine HC.out.mono ?_
      rintro e w2 ⟨he, h2⟩
      rw [he]
      have HL2 := hid (HL.out.1.trans h2)
      clear he h2 HC c0 HL
      go_wp2_with fail
      go_roundw
      case rel => exact ⟨i + 1, _, S, by omega, congrArg (Value.int .u64) HO.out, by go_num, hid ⟨HL2.out, HF.out, HA.out⟩⟩
      case measure => simp [intOf]; omega
    · obtain rfl : i = 8 := by omega
      have HE : Hid (fuM 8 0 0 s = (acc, s1)) := hid HL.out.2.1.symm
      have HT := hid HL.out.1
      clear HL
      go_wp2_with fail
      go_ret
      exact ⟨by rw [HE.out]; rfl, by rw [HE.out]; exact HT.out⟩
set_option maxHeartbeats 2000000 in
theorem dist_any (q p : Nat) (ef : Addr) (s : Rs) (w : World) (h : Rz w q p ef s) : Calls Tryz.prog 84 #[.pointer (some ⟨q, 0, none⟩)] w fun r w' => r = .returned (.int .i64 (diM s).1) ∧ Tz w w' q p ef (diM s).2 := by
  have c0 := h.ptr
  have HC := hid (yint_any q p ef s w h)
  have HE : Hid (diM s = ((inM s).1, (mG (dsB (inM s).1) (inM s).2).2)) := hid rfl
  obtain ⟨N, S, eN⟩ : ∃ N S, inM s = (N, S) := ⟨_, _, rfl⟩
  rw [eN] at HC HE
  dsimp only at HC HE
  have HD : Hid (dsB N = wiB N (-1099511627776) 1099511627776) := hid (by rw [wiB_and]; rfl)
  have HW := hid (fun w => wi6_any N (-1099511627776) 1099511627776 w)
  rw [HD.out] at HE
  obtain ⟨b, eb⟩ : ∃ b, wiB N (-1099511627776) 1099511627776 = b := ⟨_, rfl⟩
  rw [eb] at HE HW
  clear h eN HD eb
  go_enter Tryz.func84, Tryz.ntmps84
  go_wp2_with fail
  refine HC.out.mono ?_
  rintro e w1 ⟨he, h1⟩
  rw [he]
  have HT := hid h1
  clear he h1 HC c0
  go_wp2_with fail
  refine (HW.out _).mono ?_
  rintro e w2 ⟨he, e2⟩
  rw [he, e2]
  have HM := hid (must_any q p ef S b w1 HT.out.r)
  clear he e2 HW
  go_wp2_with fail
  refine HM.out.mono ?_
  rintro e w3 ⟨he, h3⟩
  rw [he]
  have HT3 := hid (HT.out.trans h3)
  clear he h3 HM
  go_wp2_with fail
  go_ret
  exact ⟨by rw [HE.out]; rfl, by rw [HE.out]; exact HT3.out⟩
/-- what stands for a reason -/
def yv (ef : Addr) (y : Bool) : Value := if y then efv ef else .nilIface
set_option maxHeartbeats 2000000 in
theorem yend_any (q p : Nat) (ef : Addr) (s : Rs) (w : World) (h : Rz w q p ef s) : Calls Tryz.prog 48 #[.pointer (some ⟨q, 0, none⟩)] w fun r w' => r = .returned (yv ef (s.y || !doB s)) ∧ Tz w w' q p ef ⟨s.bs, s.e, s.y || !doB s⟩ := by
  have c0 := h.ptr
  have HC := hid (ydone_any q p ef s w h)
  have HM := hid (must_any q p ef s (doB s) w h)
  have HD : Hid (((if s.e = 0 ∧ 0 < s.bs.length then (23 : Int) else s.e) == 0) = doB s) := hid (by unfold doB; rw [Bool.eq_iff_iff]; simp)
  obtain ⟨N, eN⟩ : ∃ N, (if s.e = 0 ∧ 0 < s.bs.length then (23 : Int) else s.e) = N := ⟨_, rfl⟩
  rw [eN] at HC HD
  obtain ⟨b, eb⟩ : ∃ b, doB s = b := ⟨_, rfl⟩
  rw [eb] at HD HM ⊢
  have hd := HD.out
  have HM2 : Hid (Calls Tryz.prog 69 #[.pointer (some ⟨q, 0, none⟩), .bool b] w fun r w' => r = .returned (.tuple #[]) ∧ Tz w w' q p ef ⟨s.bs, s.e, s.y || !b⟩) := hid HM.out
  obtain ⟨Y, eY⟩ : ∃ Y, (s.y || !b) = Y := ⟨_, rfl⟩
  rw [eY] at HM2 ⊢
  clear h eN eb HD HM eY
  go_enter Tryz.func48, Tryz.ntmps48
  go_wp2_with fail
  refine HC.out.mono ?_
  rintro e w1 ⟨he, e1⟩
  rw [he, e1]
  clear he e1 HC
  go_wp2_with fail
  refine HM2.out.mono ?_
  rintro e w2 ⟨he, h2⟩
  rw [he]
  have c1 : w2.cell? ⟨q, 1, none⟩ = some (yv ef Y) := h2.r.cells.2.1
  have HT := hid h2
  obtain ⟨x, ex⟩ : ∃ x, yv ef Y = x := ⟨_, rfl⟩
  rw [ex] at c1
  have HX := hid ex
  clear he h2 HM2 ex
  go_wp2_with fail
  go_ret
  exact ⟨by rw [HX.out]; rfl, HT.out⟩
theorem newReaderZ_any (ao : Option Addr) (n cap : Nat) (bs : List UInt8) (w : World) (hr : Rd w ao n cap bs) (h47 : n ≤ 140737488355328) :
    Calls Tryz.prog 67 #[.slice ao n cap] w fun r w' => ∃ p ao' cap', r = .returned (.pointer (some ⟨p, 0, none⟩)) ∧ w.heap.size ≤ p ∧ Rr w' p ao' n cap' bs 0 ∧ Still w w' ∧ Ub w' ao' := by
  go_enter Tryz.func67, Tryz.ntmps67
  go_wp2_with fail
  refine (clone_any ao n cap bs w hr h47).mono ?_
  rintro r w1 ⟨ao', cap', rfl, ho, hst, hao⟩
  go_wp2
  go_ret
  exact ⟨w1.heap.size, ao', cap', rfl, hst.size, ⟨heap_alloc_new w1 _, ho.rd.alloc _⟩, Fr.alloc hst _, fun a ha => by
    obtain ⟨_, _, cur, hc, _⟩ := ho.row a ha
    exact ⟨cur, (Still.alloc w1 _).kept_still hc⟩⟩
set_option maxHeartbeats 2000000 in
theorem newR_any (ef : Addr) (ao : Option Addr) (n cap : Nat) (bs : List UInt8) (w : World) (hr : Rd w ao n cap bs) (h47 : n ≤ 140737488355328) (he : w.cell? ⟨0, 0, none⟩ = some (efv ef)) :
    Calls Tryz.prog 45 #[.slice ao n cap] w fun r w' => ∃ q p, r = .returned (.pointer (some ⟨q, 0, none⟩)) ∧ (w.heap.size ≤ q ∧ w.heap.size ≤ p) ∧ Rz w' q p ef ⟨bs, 0, false⟩ ∧ Still w w' := by
  have HC := hid (newReaderZ_any ao n cap bs w hr h47)
  have HE := hid he
  clear he hr
  go_enter Tryz.func45, Tryz.ntmps45
  go_wp2_with fail
  refine HC.out.mono ?_
  rintro e w1 ⟨p, ao1, cap1, he, hp, hr1, h1, ha⟩
  rw [he]
  have hplt := hr1.lt
  have A1 := Still.alloc w1 (.cells #[.pointer (some ⟨p, 0, none⟩), .nilIface] 110)
  have hg : 0 < w.heap.size := World.block_lt_of_cell? w _ HE.out
  have HF : Hid (Rz (w1.alloc (.cells #[.pointer (some ⟨p, 0, none⟩), .nilIface] 110)) w1.heap.size p ef ⟨bs, 0, false⟩ ∧ Still w (w1.alloc (.cells #[.pointer (some ⟨p, 0, none⟩), .nilIface] 110)) ∧ (w.heap.size ≤ w1.heap.size ∧ w.heap.size ≤ p)) := hid (by
    have hsz := h1.size
    refine ⟨⟨heap_alloc_new w1 _, ⟨ao1, n, cap1, hr1.still A1, ha.kept A1 (fun _ _ e => e)⟩, ((h1.trans A1).cell hg (fun e => e)).trans HE.out, by omega, by omega, by omega⟩, h1.trans A1, hsz, hp⟩)
  clear he hp hr1 h1 ha hplt A1 HC
  go_wp2_with fail
  go_ret
  exact ⟨w1.heap.size, p, rfl, HF.out.2.2, HF.out.1, HF.out.2.1⟩
end Go.Proofs.YtaaongbdincimaaGreatDoor
