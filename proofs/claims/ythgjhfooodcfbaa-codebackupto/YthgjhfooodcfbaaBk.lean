/- CodeBack: what was laid down is taken up. -/
import Derived.Test.YthgjhfooodcfbaaSp
namespace Go.Proofs.Ythgjhfooodcfbaa
open Go.RowKit

/-- What the first k calls lay down. -/
def encs (ops : List Op) (k : Nat) : List UInt8 := ((ops.take k).map Op.enc).flatten
theorem encs_succ (ops : List Op) (k : Nat) (h : k < ops.length) : encs ops (k + 1) = encs ops k ++ ops[k].enc := by
  unfold encs
  rw [List.take_succ_eq_append_getElem h]
  simp only [List.map_append, List.map_cons, List.map_nil, List.flatten_append, List.flatten_cons, List.flatten_nil, List.append_nil]
theorem encs_le (ops : List Op) (k : Nat) : (encs ops k).length ≤ (encs ops ops.length).length := by
  have h : encs ops ops.length = encs ops k ++ ((ops.drop k).map Op.enc).flatten := by
    unfold encs
    rw [List.take_length, ← List.flatten_append, ← List.map_append, List.take_append_drop]
  rw [h, List.length_append]
  omega
/-- What is to be taken up behind the first k calls. -/
def decs (ops : List Op) (k : Nat) : List UInt8 := ((ops.drop k).map Op.enc).flatten ++ [9]
theorem decs_zero (ops : List Op) : encs ops ops.length ++ [9] = decs ops 0 := by unfold encs decs; simp
theorem decs_succ (ops : List Op) (k : Nat) (h : k < ops.length) : decs ops k = ops[k].enc ++ decs ops (k + 1) := by
  unfold decs
  rw [List.drop_eq_getElem_cons h]
  simp only [List.map_cons, List.flatten_cons, List.append_assoc]
theorem decs_end (ops : List Op) : decs ops ops.length = [9] := by unfold decs; simp
theorem decs_le (ops : List Op) (k : Nat) : (decs ops k).length ≤ (encs ops ops.length).length + 1 := by
  have h : encs ops ops.length = encs ops k ++ ((ops.drop k).map Op.enc).flatten := by
    unfold encs
    rw [List.take_length, ← List.flatten_append, ← List.map_append, List.take_append_drop]
  rw [h]
  unfold decs
  simp only [List.length_append, List.length_singleton]
  omega
/-- a writer behind one more call -/
theorem laid_fit {W wr w1 w2 : World} {p : Nat} {ao : Option Addr} {bs x : List UInt8} {room : Int} (hst : Still W wr) (hs : Still wr w1) (hp : W.heap.size ≤ p) (hao : ∀ a, ao = some a → W.heap.size ≤ a.block) (h : Laid w1 w2 p ao room bs 0 x) (hf : (bs.length : Int) + (x.length : Int) ≤ room) :
    Still W w2 ∧ ∃ ao' n' cap', Wr w2 p ao' n' cap' room (bs ++ x) 0 ∧ ∀ a, ao' = some a → W.heap.size ≤ a.block := by
  obtain ⟨ao', n', cap', h1, h2, h3⟩ := h
  rw [layS_fit hf] at h1
  refine ⟨(hst.trans hs).trans' h2 ?_, ao', n', cap', h1, fun a ha => ?_⟩
  · rintro k hk (rfl | ⟨a, h4, rfl⟩)
    · omega
    · have := hao a h4; omega
  · rcases h3 a ha with ⟨b, h4, h5⟩ | h4
    · have := hao b h4; omega
    · have := hst.size; have := hs.size; omega
theorem took_fit {W wr w2 : World} {p : Nat} {ao : Option Addr} {bs : List UInt8} {e : Int} (hst : Still W wr) (hp : W.heap.size ≤ p) (hao : ∀ a, ao = some a → W.heap.size ≤ a.block) (h : Took wr w2 p ao bs e) :
    Still W w2 ∧ ∃ ao' n' cap', Rr w2 p ao' n' cap' bs e ∧ ∀ a, ao' = some a → W.heap.size ≤ a.block := by
  obtain ⟨ao', n', cap', h1, h2, h3⟩ := h
  refine ⟨hst.trans' h2 (by rintro k hk rfl; omega), ao', n', cap', h1, fun a ha => ?_⟩
  obtain ⟨b, h4, h5⟩ := h3 a ha
  have := hao b h4
  omega
set_option maxHeartbeats 2000000 in
set_option maxRecDepth 100000 in
theorem back_walk (so : Option Addr) (n cap : Nat) (ops : List Op) (W : World) (hS : Script W so ops) (hn : ops.length = n) (hns : n ≤ 9223372036854775807) (htot : (encs ops n).length + 20 ≤ 1099511627776) :
    Calls Try.prog 5 #[.slice so n cap] W fun r w' => r = .returned (.bool true) ∧ Still W w' := by
  go_enter Try.func5, Try.ntmps5
  go_wp2_with fail
  refine (newWriter_any 1099511627776 (by omega) (by omega) W).mono ?_
  rintro r w0 ⟨rfl, hw0, hst0⟩
  rw [show max (1099511627776 : Int) 0 = 1099511627776 by omega] at hw0
  go_wp2
  go_loopw [4] (fun i wr => ∃ k : Nat, k ≤ n ∧ i = .int .i64 (k : Int) ∧ Still W wr ∧ ∃ ao' n' cap', Wr wr W.heap.size ao' n' cap' 1099511627776 (encs ops k) 0 ∧ ∀ a, ao' = some a → W.heap.size ≤ a.block) (fun i _ => n - (intOf i).toNat)
  case atStart => exact ⟨0, Nat.zero_le _, rfl, hst0, none, 0, 0, by simpa [encs] using hw0, fun _ h => by cases h⟩
  case round =>
    obtain ⟨k, hk, rfl, hst, ao', n', cap', hwr, hao⟩ := hrel
    by_cases hlt : k < n
    · have hkl : k < ops.length := by omega
      obtain ⟨b, o, hso, s0, s1, s2, s3, s4, s5⟩ := (hS.still hst).at hkl
      subst hso
      have hokW := hS.ok ops[k] (List.getElem_mem hkl)
      have hok := hokW.still hst
      have HE := hid (encs_succ ops k hkl)
      obtain ⟨op, hop⟩ : ∃ op, op = ops[k] := ⟨_, rfl⟩
      rw [← hop] at s0 s1 s2 s3 s4 s5 hok hokW HE
      clear hop
      obtain ⟨kind, which, on, oi, oa, ol, oc, ob, most⟩ := op
      dsimp only at s0 s1 s2 s3 s4 s5
      have hst1 := Still.alloc wr (.cells (Op.val ⟨kind, which, on, oi, oa, ol, oc, ob, most⟩) 28)
      have hw1 := hwr.still hst1
      have hok1 := hok.still hst1
      simp only [Op.val] at hst1 hw1 hok1
      have hp0 := Cp.pick_lo kind (n := 4) (by omega)
      have hp4 := Cp.pick_hi kind (n := 4) (by omega)
      have hpk := pick_any kind 4 hok.k1 hok.k2 (by omega) (by omega)
      have henc : Op.enc ⟨kind, which, on, oi, oa, ol, oc, ob, most⟩ = Cp.enc (Cp.pick kind 4) on oi ob := rfl
      obtain ⟨q, hq⟩ : ∃ q, q = Cp.pick kind 4 := ⟨_, rfl⟩
      rw [← hq] at hp0 hp4 henc
      simp only [← hq] at hpk
      have HP := hid hpk
      clear hpk hq
      have hle := encs_le ops (k + 1)
      rw [HE.out, hn, List.length_append] at hle
      have hfit : ((encs ops k).length : Int) + ((Op.enc ⟨kind, which, on, oi, oa, ol, oc, ob, most⟩).length : Int) ≤ 1099511627776 := by omega
      have hn' : n' = (encs ops k).length := hwr.own.rd.len.symm
      have h10 : n' + 10 ≤ 140737488355328 := by omega
      have hplt := hwr.lt
      have hWlt := hst.size
      by_cases h0 : q < 1
      · have he : Op.enc ⟨kind, which, on, oi, oa, ol, oc, ob, most⟩ = Cp.form on := by rw [henc]; unfold Cp.enc; rw [if_pos (by omega)]
        rw [he] at hfit
        have HC := hid (wuint_any W.heap.size ao' n' cap' 1099511627776 (encs ops k) 0 on hok.n1 _ hw1 (by omega) (by omega) h10)
        have HL := hid hn'
        have HEN := hid he
        have HFT := hid hfit
        clear hn' he henc hle hfit
        go_wp2_with fail
        refine (HP.out _).mono ?_
        rintro r w1 ⟨rfl, rfl⟩
        go_wp2_with fail
        refine HC.out.mono ?_
        rintro r w1 ⟨rfl, hl⟩
        obtain ⟨R1, R2⟩ := laid_fit hst hst1 (Nat.le_refl _) hao hl HFT.out
        rw [← HEN.out, ← HE.out] at R2
        go_wp2
        go_roundw
        case rel => exact ⟨k + 1, by omega, by go_num, R1, R2⟩
        case measure => simp [intOf]; omega
      · by_cases h1 : q < 2
        · have he : Op.enc ⟨kind, which, on, oi, oa, ol, oc, ob, most⟩ = Cp.form (Cp.fold oi) := by rw [henc]; unfold Cp.enc; rw [if_neg (by omega), if_pos (by omega)]
          rw [he] at hfit
          have HC := hid (wint_any W.heap.size ao' n' cap' 1099511627776 (encs ops k) 0 oi hok.i1 hok.i2 _ hw1 (by omega) (by omega) h10)
          have HL := hid hn'
          have HEN := hid he
          have HFT := hid hfit
          clear hn' he henc hle hfit
          go_wp2_with fail
          refine (HP.out _).mono ?_
          rintro r w1 ⟨rfl, rfl⟩
          go_wp2_with fail
          refine HC.out.mono ?_
          rintro r w1 ⟨rfl, hl⟩
          obtain ⟨R1, R2⟩ := laid_fit hst hst1 (Nat.le_refl _) hao hl HFT.out
          rw [← HEN.out, ← HE.out] at R2
          go_wp2
          go_roundw
          case rel => exact ⟨k + 1, by omega, by go_num, R1, R2⟩
          case measure => simp [intOf]; omega
        · by_cases h2 : q < 3
          · have he : Op.enc ⟨kind, which, on, oi, oa, ol, oc, ob, most⟩ = [UInt8.ofNat (on % 256)] := by rw [henc]; unfold Cp.enc; rw [if_neg (by omega), if_neg (by omega), if_pos (by omega)]
            have HC := hid (wbyte_any W.heap.size ao' n' cap' 1099511627776 (encs ops k) 0 (UInt8.ofNat (on % 256)) ((on % 256 : Nat) : Int) (by rw [Cp.ofNat_toNat (by omega)]) _ hw1 (by omega) (by omega) h10)
            have hwrap : IntKind.u8.wrap (on : Int) = ((on % 256 : Nat) : Int) := by rw [IntKind.wrap_u8]; omega
            have HL := hid hn'
            have HEN := hid he
            have HFT := hid hfit
            clear hn' he henc hle hfit
            go_wp2_with fail
            refine (HP.out _).mono ?_
            rintro r w1 ⟨rfl, rfl⟩
            go_wp2_with fail
            refine HC.out.mono ?_
            rintro r w1 ⟨rfl, hl⟩
            obtain ⟨R1, R2⟩ := laid_fit hst hst1 (Nat.le_refl _) hao hl (by rw [← HEN.out]; exact HFT.out)
            rw [← HEN.out, ← HE.out] at R2
            go_wp2
            go_roundw
            case rel => exact ⟨k + 1, by omega, by go_num, R1, R2⟩
            case measure => simp [intOf]; omega
          · have he : Op.enc ⟨kind, which, on, oi, oa, ol, oc, ob, most⟩ = Cp.counted ob := by rw [henc]; unfold Cp.enc; rw [if_neg (by omega), if_neg (by omega), if_neg (by omega)]
            rw [he] at hfit
            have HC := hid (wbytes_any W.heap.size ao' n' cap' 1099511627776 (encs ops k) 0 oa ol oc ob _ hw1 hok1.rd (fun a ha hl hf => by
                          have h3 := hokW.rd.lt hl a ha
                          rcases hf with hf | ⟨c, h4, hf⟩
                          · rw [hf] at h3; omega
                          · have := hao c h4; omega) (by omega) (by omega) (by
                          have hlb : ob.length = ol := hok.rd.len
                          have : (Cp.counted ob).length = (Cp.form ol).length + ol := by unfold Cp.counted; rw [hlb, List.length_append, hlb]
                          omega))
            have HL := hid hn'
            have HEN := hid he
            have HFT := hid hfit
            clear hn' he henc hle hfit
            go_wp2_with fail
            refine (HP.out _).mono ?_
            rintro r w1 ⟨rfl, rfl⟩
            go_wp2_with fail
            refine HC.out.mono ?_
            rintro r w1 ⟨rfl, hl⟩
            obtain ⟨R1, R2⟩ := laid_fit hst hst1 (Nat.le_refl _) hao hl HFT.out
            rw [← HEN.out, ← HE.out] at R2
            go_wp2
            go_roundw
            case rel => exact ⟨k + 1, by omega, by go_num, R1, R2⟩
            case measure => simp [intOf]; omega
    · have hkn : Hid (k = ops.length) := by show _ = _; omega
      have hn' : n' = (encs ops k).length := hwr.own.rd.len.symm
      have hle := encs_le ops k
      rw [hn] at hle
      have h10 : n' + 10 ≤ 140737488355328 := by omega
      have HC := hid (wbyte_any W.heap.size ao' n' cap' 1099511627776 (encs ops k) 0 9 9 rfl _ hwr (by omega) (by omega) h10)
      have hfit : ((encs ops k).length : Int) + (([9] : List UInt8).length : Int) ≤ 1099511627776 := by simp; omega
      have HL := hid hn'
      clear hn' hle
      go_wp2_with fail
      refine HC.out.mono ?_
      rintro r w1 ⟨rfl, hl⟩
      obtain ⟨hst1, ao1, n1, cap1, hw1, hao1⟩ := laid_fit hst (Fr.refl _ wr) (Nat.le_refl _) hao hl hfit
      rw [hkn.out, decs_zero] at hw1
      have hdl := decs_le ops 0
      have hn1 : (decs ops 0).length = n1 := hw1.own.rd.len
      rw [hn1, hn] at hdl
      have h47 : n1 ≤ 140737488355328 := by omega
      have H1 := hid hn1
      clear hn1 hdl
      go_wp2_with fail
      refine (wdone_any W.heap.size ao1 n1 cap1 _ _ 0 _ hw1 h47).mono ?_
      rintro r w2 ⟨ao2, cap2, rfl, ho2, hst2, hao2⟩
      go_wp2_with fail
      refine (newReader_any ao2 n1 cap2 _ _ ho2.rd h47).mono ?_
      rintro r w3 ⟨rp, ao3, cap3, rfl, hrp, hr3, hst3, hao3⟩
      go_wp2
      have hst3' := (hst1.trans hst2).trans hst3
      have hWrp : W.heap.size ≤ rp := by have := hst1.size; have := hst2.size; omega
      have hWao3 : ∀ a, ao3 = some a → W.heap.size ≤ a.block := fun a ha => by have := hao3 a ha; have := hst1.size; have := hst2.size; omega
      go_loopw [9] (fun i wr => ∃ k : Nat, k ≤ n ∧ i = .int .i64 (k : Int) ∧ Still W wr ∧ ∃ ao' n' cap', Rr wr rp ao' n' cap' (decs ops k) 0 ∧ ∀ a, ao' = some a → W.heap.size ≤ a.block) (fun i _ => n - (intOf i).toNat)
      case atStart => exact ⟨0, Nat.zero_le _, rfl, hst3', ao3, n1, cap3, hr3, hWao3⟩
      case round =>
        clear hlt hk
        obtain ⟨j, hj, rfl, hst4, ao4, n4, cap4, hr4, hao4⟩ := hrel
        have hdl := decs_le ops j
        rw [hr4.rd.len, hn] at hdl
        have h47' : n4 ≤ 140737488355328 := by omega
        by_cases hlt : j < n
        · have hjl : j < ops.length := by omega
          obtain ⟨b, o, hso, s0, s1, s2, s3, s4, s5⟩ := (hS.still hst4).at hjl
          subst hso
          have hokW := hS.ok ops[j] (List.getElem_mem hjl)
          rw [decs_succ ops j hjl] at hr4
          obtain ⟨op, hop⟩ : ∃ op, op = ops[j] := ⟨_, rfl⟩
          rw [← hop] at s0 s1 s2 s3 s4 s5 hokW hr4
          clear hop
          have HC := hid (again_any rp ao4 n4 cap4 _ op wr hr4 (hokW.still hst4) (fun a ha hl => by have := hokW.rd.lt hl a ha; omega) h47')
          obtain ⟨kind, which, on, oi, oa, ol, oc, ob, most⟩ := op
          dsimp only [Op.val] at s0 s1 s2 s3 s4 s5 HC
          go_wp2_with fail
          refine HC.out.mono ?_
          rintro r w5 ⟨rfl, ht⟩
          obtain ⟨R1, R2⟩ := took_fit hst4 hWrp hao4 ht
          go_wp2
          go_roundw
          case rel => exact ⟨j + 1, by omega, by go_num, R1, R2⟩
          case measure => simp [intOf]; omega
        · have hjn : j = ops.length := by omega
          rw [hjn, decs_end] at hr4
          clear hjn
          have hc := byte_any rp ao4 n4 cap4 [9] 0 wr hr4
          rw [Cp.byte_form] at hc
          have HC := hid hc
          clear hc
          go_wp2_with fail
          refine HC.out.mono ?_
          rintro r w5 ⟨rfl, ht⟩
          obtain ⟨R1, ao5, n5, cap5, hr5, hao5⟩ := took_fit hst4 hWrp hao4 ht
          go_wp2_with fail
          refine (left_any rp ao5 n5 cap5 _ _ w5 hr5).mono ?_
          rintro r w6 ⟨rfl, rfl⟩
          go_wp2_with fail
          refine (rdone_any rp ao5 n5 cap5 _ _ w6 hr5).mono ?_
          rintro r w7 ⟨rfl, rfl⟩
          go_wp2
          go_ret
          exact ⟨rfl, R1⟩
end Go.Proofs.Ythgjhfooodcfbaa
