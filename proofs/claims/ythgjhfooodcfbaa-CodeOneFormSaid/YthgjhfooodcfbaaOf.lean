/- CodeOneForm: the walk. -/
import Derived.Test.YthgjhfooodcfbaaOn
namespace Go.Proofs.Ythgjhfooodcfbaa
open Go.RowKit

set_option maxHeartbeats 4000000 in
set_option maxRecDepth 100000 in
theorem oneForm_walk (bo : Option Addr) (bl bc : Nat) (bs : List UInt8) (ko : Option Addr) (kn kc : Nat) (K : Nat → Int) (W : World) (hb : Rd W bo bl bc bs) (h47 : bl + 20 ≤ 140737488355328)
    (hk : ∀ i, i < kn → ∃ b o, ko = some ⟨b, o, none⟩ ∧ W.cell? ⟨b, o + i, none⟩ = some (.int .i64 (K i)) ∧ -9223372036854775808 ≤ K i ∧ K i ≤ 9223372036854775807) (hkn : kn ≤ 9223372036854775807) :
    Calls Try.prog 6 #[.slice bo bl bc, .slice ko kn kc] W fun r w' => r = .returned (.bool true) ∧ Still W w' := by
  have hlen := hb.len
  go_enter Try.func6, Try.ntmps6
  go_wp2_with fail
  refine (awake_any W).mono ?_
  rintro r w1 ⟨rfl, hst1⟩
  go_wp2_with fail
  refine (newReader_lt bo bl bc bs w1 (hb.still hst1) (by omega)).mono ?_
  rintro r w2 ⟨rp, ro, rc, rfl, hrp, hr2, hst2, hra⟩
  go_wp2_with fail
  refine (newWriter_any (bl : Int) (by omega) (by omega) w2).mono ?_
  rintro r w3 ⟨rfl, hw3, hst3⟩
  rw [show max (bl : Int) 0 = (bl : Int) by omega] at hw3
  obtain ⟨S, hS⟩ : ∃ S, S = w2.heap.size := ⟨_, rfl⟩
  have h2 : Two W w3 S rp S ro bl rc (bs.drop 0) 0 none 0 0 bl (bs.take 0) := by
    have := hst1.size
    have := hr2.lt
    refine ⟨(hst1.trans hst2).trans hst3, by simpa using hr2.still hst3, by rw [hS]; simpa using hw3, by omega, by omega, Nat.le_refl _, fun a ha => ?_, fun a ha => (by cases ha), by have := hst3.size; omega⟩
    have := hra a ha
    omega
  rw [← hS]
  have HS := hid hS
  have HLEN := hid hlen
  clear hS hlen hra hr2 hw3 hst1 hst2 hst3 hrp
  go_wp2
  go_loopw [8] (fun i wr => ∃ (k t : Nat) (e : Int) (ro : Option Addr) (rn rc : Nat) (wo : Option Addr) (wn wc : Nat), k ≤ kn ∧ i = .int .i64 (k : Int) ∧ t ≤ bs.length ∧ Two W wr S rp S ro rn rc (bs.drop t) e wo wn wc (bl : Int) (bs.take t)) (fun i _ => kn - (intOf i).toNat)
  case atStart => exact ⟨0, 0, 0, ro, bl, rc, none, 0, 0, Nat.zero_le _, rfl, Nat.zero_le _, h2⟩
  case round =>
    clear h2
    obtain ⟨k, t, e, ro, rn, rc, wo, wn, wc, hkk, rfl, ht0, h2⟩ := hrel
    have hll := left_any rp ro rn rc _ _ wr h2.rd
    obtain ⟨L0, hL0⟩ : ∃ L0, L0 = (bs.drop t).length := ⟨_, rfl⟩
    rw [← hL0] at hll
    have HB := hid hll
    have hL0' : L0 = bs.length - t := by rw [hL0, List.length_drop]
    have hrn : rn = L0 := by rw [hL0, h2.rd.rd.len]
    have hwn : wn = (bs.take t).length := h2.wt.own.rd.len.symm
    rw [List.length_take] at hwn
    have hrn47 : rn ≤ 140737488355328 := by have := HLEN.out; omega
    have hwn47 : wn + 10 ≤ 140737488355328 := by have := HLEN.out; omega
    have hbl := HLEN.out
    have HL0 := hid hL0
    have HWN := hid hwn
    have HRN := hid hrn
    clear hll hL0 hwn hrn
    by_cases hlt : k < kn
    · obtain ⟨kb, kof, rfl, hkc, hk1, hk2⟩ := hk k hlt
      have hkc' : wr.cell? ⟨kb, kof + k, none⟩ = some (.int .i64 (K k)) := by rw [h2.still.cell (World.block_lt_of_cell? W _ hkc) (fun e => e)]; exact hkc
      clear hkc
      have hp0 := Cp.pick_lo (K k) (n := 4) (by omega)
      have hp4 := Cp.pick_hi (K k) (n := 4) (by omega)
      have hpk := pick_any (K k) 4 hk1 hk2 (by omega) (by omega)
      obtain ⟨q, hq⟩ : ∃ q, q = Cp.pick (K k) 4 := ⟨_, rfl⟩
      rw [← hq] at hp0 hp4
      simp only [← hq] at hpk
      have HP := hid hpk
      clear hpk hq
      by_cases h0 : q < 1
      · obtain ⟨v, rest', e', hu⟩ : ∃ v rest' e', Cp.uintS (bs.drop t) e = (v, rest', e') := ⟨_, _, _, rfl⟩
        have hto := Cp.uint_took (bs.drop t) e
        have hc := uint_any rp ro rn rc _ _ wr h2.rd
        rw [hu] at hto hc
        dsimp only at hto hc
        have HC := hid hc
        clear hc hu
        obtain ⟨L1, hL1⟩ : ∃ L1, L1 = rest'.length := ⟨_, rfl⟩
        rcases hto with hto | hto
        · have hle : L0 ≤ L1 := by rw [hL1, hto, List.length_drop]; omega
          have HT := hid hto
          have HL1 := hid hL1
          clear hto hL1
          go_wp2_with fail
          refine HB.out.mono ?_
          rintro r w0 ⟨rfl, rfl⟩
          go_wp2_with fail
          refine (HP.out _).mono ?_
          rintro r w1 ⟨rfl, rfl⟩
          go_wp2_with fail
          refine HC.out.mono ?_
          rintro r w2 ⟨rfl, ht⟩
          obtain ⟨ro', rn', rc', h2'⟩ := h2.took ht
          have hlc := left_any rp ro' rn' rc' _ _ _ h2'.rd
          rw [← HL1.out] at hlc
          have HLC := hid hlc
          clear hlc
          go_wp2_with fail
          refine HLC.out.mono ?_
          rintro r w3 ⟨rfl, rfl⟩
          rw [HT.out] at h2'
          go_wp2
          go_roundw
          case rel => exact ⟨k + 1, t, e', ro', rn', rc', wo, wn, wc, by omega, by go_num, ht0, h2'⟩
          case measure => simp [intOf]; omega
        · obtain ⟨hvn, hto⟩ := hto
          have hx := Cp.took_len hto
          rw [← hL1, ← HL0.out] at hx
          have hd := Cp.took_drop hto
          have hpos : 0 < (Cp.form v).length := Cp.form_pos _
          have hgt : L1 < L0 := by omega
          have hfit : ((bs.take t).length : Int) + ((Cp.form v).length : Int) ≤ (bl : Int) := by rw [List.length_take]; omega
          have HT := hid hto
          have HL1 := hid hL1
          have HF := hid hfit
          have HD := hid hd
          have HX := hid hx
          clear hto hL1 hfit hd hx
          go_wp2_with fail
          refine HB.out.mono ?_
          rintro r w0 ⟨rfl, rfl⟩
          go_wp2_with fail
          refine (HP.out _).mono ?_
          rintro r w1 ⟨rfl, rfl⟩
          go_wp2_with fail
          refine HC.out.mono ?_
          rintro r w2 ⟨rfl, ht⟩
          obtain ⟨ro', rn', rc', h2'⟩ := h2.took ht
          have hlc := left_any rp ro' rn' rc' _ _ _ h2'.rd
          rw [← HL1.out] at hlc
          have HLC := hid hlc
          clear hlc
          have hwc := wuint_any S wo wn wc (bl : Int) (bs.take t) 0 v hvn _ h2'.wt (by omega) (by omega) hwn47
          have HWC := hid hwc
          clear hwc
          go_wp2_with fail
          refine HLC.out.mono ?_
          rintro r w3 ⟨rfl, rfl⟩
          go_wp2_with fail
          refine HWC.out.mono ?_
          rintro r w4 ⟨rfl, hl⟩
          obtain ⟨wo', wn', wc', h3⟩ := h2'.laid hl HF.out
          rw [HD.out.1, HD.out.2] at h3
          go_wp2
          go_roundw
          case rel => exact ⟨k + 1, t + (Cp.form v).length, e', ro', rn', rc', wo', wn', wc', by omega, by go_num, by have := HX.out; omega, h3⟩
          case measure => simp [intOf]; omega
      · by_cases h1 : q < 2
        · obtain ⟨v, rest', e', hu⟩ : ∃ v rest' e', Cp.uintS (bs.drop t) e = (v, rest', e') := ⟨_, _, _, rfl⟩
          have hto := Cp.uint_took (bs.drop t) e
          have hc := int_any rp ro rn rc _ _ wr h2.rd
          rw [hu] at hto hc
          dsimp only at hto hc
          have HC := hid hc
          clear hc hu
          obtain ⟨L1, hL1⟩ : ∃ L1, L1 = rest'.length := ⟨_, rfl⟩
          rcases hto with hto | hto
          · have hle : L0 ≤ L1 := by rw [hL1, hto, List.length_drop]; omega
            have HT := hid hto
            have HL1 := hid hL1
            clear hto hL1
            go_wp2_with fail
            refine HB.out.mono ?_
            rintro r w0 ⟨rfl, rfl⟩
            go_wp2_with fail
            refine (HP.out _).mono ?_
            rintro r w1 ⟨rfl, rfl⟩
            go_wp2_with fail
            refine HC.out.mono ?_
            rintro r w2 ⟨rfl, ht⟩
            obtain ⟨ro', rn', rc', h2'⟩ := h2.took ht
            have hlc := left_any rp ro' rn' rc' _ _ _ h2'.rd
            rw [← HL1.out] at hlc
            have HLC := hid hlc
            clear hlc
            go_wp2_with fail
            refine HLC.out.mono ?_
            rintro r w3 ⟨rfl, rfl⟩
            rw [HT.out] at h2'
            go_wp2
            go_roundw
            case rel => exact ⟨k + 1, t, e', ro', rn', rc', wo, wn, wc, by omega, by go_num, ht0, h2'⟩
            case measure => simp [intOf]; omega
          · obtain ⟨hvn, hto⟩ := hto
            have hx := Cp.took_len hto
            rw [← hL1, ← HL0.out] at hx
            have hd := Cp.took_drop hto
            have hpos : 0 < (Cp.form v).length := Cp.form_pos _
            have hgt : L1 < L0 := by omega
            have hfit : ((bs.take t).length : Int) + ((Cp.form v).length : Int) ≤ (bl : Int) := by rw [List.length_take]; omega
            have HT := hid hto
            have HL1 := hid hL1
            have HF := hid hfit
            have HD := hid hd
            have HX := hid hx
            clear hto hL1 hfit hd hx
            go_wp2_with fail
            refine HB.out.mono ?_
            rintro r w0 ⟨rfl, rfl⟩
            go_wp2_with fail
            refine (HP.out _).mono ?_
            rintro r w1 ⟨rfl, rfl⟩
            go_wp2_with fail
            refine HC.out.mono ?_
            rintro r w2 ⟨rfl, ht⟩
            obtain ⟨ro', rn', rc', h2'⟩ := h2.took ht
            have hlc := left_any rp ro' rn' rc' _ _ _ h2'.rd
            rw [← HL1.out] at hlc
            have HLC := hid hlc
            clear hlc
            have hwc := wint_any S wo wn wc (bl : Int) (bs.take t) 0 (Cp.unfold v) (Cp.unfold_lo hvn) (Cp.unfold_hi hvn) _ h2'.wt (by omega) (by omega) hwn47
            rw [Cp.fold_unfold] at hwc
            have HWC := hid hwc
            clear hwc
            go_wp2_with fail
            refine HLC.out.mono ?_
            rintro r w3 ⟨rfl, rfl⟩
            go_wp2_with fail
            refine HWC.out.mono ?_
            rintro r w4 ⟨rfl, hl⟩
            obtain ⟨wo', wn', wc', h3⟩ := h2'.laid hl HF.out
            rw [HD.out.1, HD.out.2] at h3
            go_wp2
            go_roundw
            case rel => exact ⟨k + 1, t + (Cp.form v).length, e', ro', rn', rc', wo', wn', wc', by omega, by go_num, by have := HX.out; omega, h3⟩
            case measure => simp [intOf]; omega
        · by_cases h2q : q < 3
          · obtain ⟨v, rest', e', hu⟩ : ∃ v rest' e', Cp.byteS (bs.drop t) e = (v, rest', e') := ⟨_, _, _, rfl⟩
            have hto := Cp.byte_took (bs.drop t) e
            have hc := byte_any rp ro rn rc _ _ wr h2.rd
            rw [hu] at hto hc
            dsimp only at hto hc
            have HC := hid hc
            clear hc hu
            obtain ⟨L1, hL1⟩ : ∃ L1, L1 = rest'.length := ⟨_, rfl⟩
            rcases hto with hto | hto
            · have hle : L0 ≤ L1 := by rw [hL1, hto, List.length_drop]; omega
              have HT := hid hto
              have HL1 := hid hL1
              clear hto hL1
              go_wp2_with fail
              refine HB.out.mono ?_
              rintro r w0 ⟨rfl, rfl⟩
              go_wp2_with fail
              refine (HP.out _).mono ?_
              rintro r w1 ⟨rfl, rfl⟩
              go_wp2_with fail
              refine HC.out.mono ?_
              rintro r w2 ⟨rfl, ht⟩
              obtain ⟨ro', rn', rc', h2'⟩ := h2.took ht
              have hlc := left_any rp ro' rn' rc' _ _ _ h2'.rd
              rw [← HL1.out] at hlc
              have HLC := hid hlc
              clear hlc
              go_wp2_with fail
              refine HLC.out.mono ?_
              rintro r w3 ⟨rfl, rfl⟩
              rw [HT.out] at h2'
              go_wp2
              go_roundw
              case rel => exact ⟨k + 1, t, e', ro', rn', rc', wo, wn, wc, by omega, by go_num, ht0, h2'⟩
              case measure => simp [intOf]; omega
            · have hx := Cp.took_len hto
              rw [← hL1, ← HL0.out] at hx
              have hd := Cp.took_drop hto
              have hpos : 0 < ([v]).length := by simp
              have hgt : L1 < L0 := by omega
              have hfit : ((bs.take t).length : Int) + (([v]).length : Int) ≤ (bl : Int) := by rw [List.length_take]; omega
              have HT := hid hto
              have HL1 := hid hL1
              have HF := hid hfit
              have HD := hid hd
              have HX := hid hx
              clear hto hL1 hfit hd hx
              go_wp2_with fail
              refine HB.out.mono ?_
              rintro r w0 ⟨rfl, rfl⟩
              go_wp2_with fail
              refine (HP.out _).mono ?_
              rintro r w1 ⟨rfl, rfl⟩
              go_wp2_with fail
              refine HC.out.mono ?_
              rintro r w2 ⟨rfl, ht⟩
              obtain ⟨ro', rn', rc', h2'⟩ := h2.took ht
              have hlc := left_any rp ro' rn' rc' _ _ _ h2'.rd
              rw [← HL1.out] at hlc
              have HLC := hid hlc
              clear hlc
              have hwc := wbyte_any S wo wn wc (bl : Int) (bs.take t) 0 v (v.toNat : Int) rfl _ h2'.wt (by omega) (by omega) hwn47
              have HWC := hid hwc
              clear hwc
              go_wp2_with fail
              refine HLC.out.mono ?_
              rintro r w3 ⟨rfl, rfl⟩
              go_wp2_with fail
              refine HWC.out.mono ?_
              rintro r w4 ⟨rfl, hl⟩
              obtain ⟨wo', wn', wc', h3⟩ := h2'.laid hl HF.out
              rw [HD.out.1, HD.out.2] at h3
              go_wp2
              go_roundw
              case rel => exact ⟨k + 1, t + ([v]).length, e', ro', rn', rc', wo', wn', wc', by omega, by go_num, by have := HX.out; omega, h3⟩
              case measure => simp [intOf]; omega
          · obtain ⟨v, rest', e', hu⟩ : ∃ v rest' e', Cp.bytesS (bl : Int) (bs.drop t) e = (v, rest', e') := ⟨_, _, _, rfl⟩
            have hto := Cp.bytes_took (bl : Int) (bs.drop t) e
            have hc := bytes_any rp ro rn rc _ _ (bl : Int) (by omega) (by omega) wr h2.rd hrn47
            rw [hu] at hto hc
            dsimp only at hto hc
            have HC := hid hc
            clear hc hu
            obtain ⟨L1, hL1⟩ : ∃ L1, L1 = rest'.length := ⟨_, rfl⟩
            rcases hto with hto | hto
            · have hle : L0 ≤ L1 := by rw [hL1, hto, List.length_drop]; omega
              have HT := hid hto
              have HL1 := hid hL1
              clear hto hL1
              go_wp2_with fail
              refine HB.out.mono ?_
              rintro r w0 ⟨rfl, rfl⟩
              go_wp2_with fail
              refine (HP.out _).mono ?_
              rintro r w1 ⟨rfl, rfl⟩
              go_wp2_with fail
              refine HC.out.mono ?_
              rintro r w2 ⟨fo, d, rfl, hfo, hnew, ht⟩
              obtain ⟨ro', rn', rc', h2'⟩ := h2.took ht
              have hlc := left_any rp ro' rn' rc' _ _ _ h2'.rd
              rw [← HL1.out] at hlc
              have HLC := hid hlc
              clear hlc
              go_wp2_with fail
              refine HLC.out.mono ?_
              rintro r w3 ⟨rfl, rfl⟩
              rw [HT.out] at h2'
              go_wp2
              go_roundw
              case rel => exact ⟨k + 1, t, e', ro', rn', rc', wo, wn, wc, by omega, by go_num, ht0, h2'⟩
              case measure => simp [intOf]; omega
            · have hx := Cp.took_len hto
              rw [← hL1, ← HL0.out] at hx
              have hd := Cp.took_drop hto
              have hpos : 0 < (Cp.counted v).length := by unfold Cp.counted; have := Cp.form_pos v.length; rw [List.length_append]; omega
              have hgt : L1 < L0 := by omega
              have hfit : ((bs.take t).length : Int) + ((Cp.counted v).length : Int) ≤ (bl : Int) := by rw [List.length_take]; omega
              have HT := hid hto
              have HL1 := hid hL1
              have HF := hid hfit
              have HD := hid hd
              have HX := hid hx
              clear hto hL1 hfit hd hx
              go_wp2_with fail
              refine HB.out.mono ?_
              rintro r w0 ⟨rfl, rfl⟩
              go_wp2_with fail
              refine (HP.out _).mono ?_
              rintro r w1 ⟨rfl, rfl⟩
              go_wp2_with fail
              refine HC.out.mono ?_
              rintro r w2 ⟨fo, d, rfl, hfo, hnew, ht⟩
              obtain ⟨ro', rn', rc', h2'⟩ := h2.took ht
              have hlc := left_any rp ro' rn' rc' _ _ _ h2'.rd
              rw [← HL1.out] at hlc
              have HLC := hid hlc
              clear hlc
              have hwc := wbytes_any S wo wn wc (bl : Int) (bs.take t) 0 fo v.length d v _ h2'.wt hfo.rd (fun a ha _ hf => by have := hnew a ha; have := h2.wt.wf_lt _ hf; omega) (by omega) (by omega) (by
                have h1 := HX.out
                have h3 : (Cp.counted v).length = (Cp.form v.length).length + v.length := by unfold Cp.counted; rw [List.length_append]
                have := HWN.out
                omega)
              have HWC := hid hwc
              clear hwc
              go_wp2_with fail
              refine HLC.out.mono ?_
              rintro r w3 ⟨rfl, rfl⟩
              go_wp2_with fail
              refine HWC.out.mono ?_
              rintro r w4 ⟨rfl, hl⟩
              obtain ⟨wo', wn', wc', h3⟩ := h2'.laid hl HF.out
              rw [HD.out.1, HD.out.2] at h3
              go_wp2
              go_roundw
              case rel => exact ⟨k + 1, t + (Cp.counted v).length, e', ro', rn', rc', wo', wn', wc', by omega, by go_num, by have := HX.out; omega, h3⟩
              case measure => simp [intOf]; omega
    · have hbw := hb.still h2.still
      have HT0 : Hid (bl - L0 = t) := by show _ = _; omega
      have hL0bl : L0 ≤ bl := by omega
      have hble := hb.le
      have htbl : t ≤ bl := by omega
      obtain ⟨i0, hi, hz, hs1, hb1⟩ := info_parts info_u8
      have hsu : ∀ W' : World, (Instr.slice 26 (.slice bo bl bc) none (some (.int .i64 ((bl : Int) - (L0 : Int)))) none).run Try.prog W' = .ok (.slice bo t bc) W' := fun W' => by
        have := run_upto (P := Try.prog) W' 26 5 i0 Try.underlying26 hi hs1 .i64 bo bl bc ((bl : Int) - (L0 : Int)) (by omega) (by omega)
        rw [this, show ((bl : Int) - (L0 : Int)).toNat = t by omega]
      clear hL0'
      go_wp2_with fail
      refine HB.out.mono ?_
      rintro r w4 ⟨rfl, rfl⟩
      go_wp2_with fail
      refine (wdone_any S wo wn wc _ _ 0 _ h2.wt (by omega)).mono ?_
      rintro r w5 ⟨ao, cap, rfl, ho5, hst5, hao5⟩
      have s1 : ∀ nq, (convert 26 9 (.slice ao wn cap)).run Try.prog (w5.drewN nq) = .ok (.string ⟨(bs.take t).toArray⟩) (w5.drewN nq) := fun nq =>
        run_string (P := Try.prog) _ 26 5 9 Try.underlying26 Try.underlying5 Try.underlying9 (ho5.rd.drewN nq)
      have s2 : ∀ nq, (convert 26 9 (.slice bo t bc)).run Try.prog (w5.drewN nq) = .ok (.string ⟨(bs.take t).toArray⟩) (w5.drewN nq) := fun nq =>
        run_string (P := Try.prog) _ 26 5 9 Try.underlying26 Try.underlying5 Try.underlying9 (((hbw.take htbl).still hst5).drewN nq)
      have HSTR := hid (h2.still.trans hst5)
      obtain ⟨str, hstr⟩ : ∃ str : ByteArray, str = ⟨(bs.take t).toArray⟩ := ⟨_, rfl⟩
      rw [← hstr] at s1 s2
      clear hstr
      go_wp2
      go_quiet (fail)
      go_wp2
      go_ret
      exact ⟨rfl, HSTR.out.trans ((Fr.refl _ w5).drewN _)⟩
end Go.Proofs.Ythgjhfooodcfbaa
