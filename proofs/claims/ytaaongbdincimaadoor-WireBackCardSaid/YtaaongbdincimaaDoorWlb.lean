/- The chapter's first example; a datagram is read as it was written; bytes that are read are written again. -/
import Derived.Test.YtaaongbdincimaaDoorWrk
import Derived.Test.YtaaongbdincimaaDoorWla
namespace Go.Proofs.YtaaongbdincimaaDoor
open Go.RowKit
open Wp Vp
set_option maxRecDepth 100000
set_option linter.unusedVariables false
set_option linter.unusedSimpArgs false

/-- bytes of a datagram that may be are read as it -/
theorem dec_enc {d : Dg} (h : okD d = true) (hs : 0 ≤ d.ss ∧ d.ss < 18446744073709551616) : dec16 (encB d) = (d, 0) := by
  have hl := opnB_le h
  have hn := encB_len d
  have h1 : ¬ (16384 < (encB d).length ∨ (encB d).length < 8) := by omega
  have ht : (encB d).take ((encB d).length - 8) = opnB d := by
    rw [hn, Nat.add_sub_cancel]
    unfold encB
    rw [List.take_append_of_le_length (Nat.le_refl _), List.take_length]
  have hd : (encB d).drop ((encB d).length - 8) = sumZ (opnB d) := by
    rw [hn, Nat.add_sub_cancel]
    unfold encB
    rw [List.drop_append_of_le_length (Nat.le_refl _), List.drop_length, List.nil_append]
  rw [dec_some h1 (by rw [ht, hd]) (by rw [ht]; exact says_form h hs), h]
  rfl
/-- bytes that say a datagram are its bytes -/
theorem enc_dec {b : List UInt8} {d : Dg} (h : dec16 b = (d, 0)) : okD d = true ∧ encB d = b ∧ (0 ≤ d.ss ∧ d.ss < 18446744073709551616) := by
  by_cases h1 : 16384 < b.length ∨ b.length < 8
  · rw [dec_len h1] at h; cases h
  · by_cases hs : sumZ (b.take (b.length - 8)) = b.drop (b.length - 8)
    · cases hd : saysD (b.take (b.length - 8)) with
      | none => rw [dec_none h1 hs hd] at h; cases h
      | some d' =>
        rw [dec_some h1 hs hd] at h
        cases hok : okD d' with
        | false => rw [hok] at h; cases h
        | true =>
          rw [hok] at h
          cases h
          obtain ⟨e1, e2⟩ := says_back hd
          refine ⟨hok, ?_, e2⟩
          unfold encB
          rw [← e1, hs, List.take_append_drop]
    · rw [dec_sum h1 hs] at h; cases h
theorem dec_cases (b : List UInt8) : (∃ d, dec16 b = (d, 0)) ∨ dec16 b = (zD, 160) ∨ dec16 b = (zD, 162) ∨ (dec16 b = (zD, 161) ∧ sumZ (b.take (b.length - 8)) ≠ b.drop (b.length - 8)) := by
  by_cases h1 : 16384 < b.length ∨ b.length < 8
  · exact .inr (.inl (dec_len h1))
  · by_cases hs : sumZ (b.take (b.length - 8)) = b.drop (b.length - 8)
    · cases hd : saysD (b.take (b.length - 8)) with
      | none => exact .inr (.inl (dec_none h1 hs hd))
      | some d' =>
        have := dec_some h1 hs hd
        cases hok : okD d' with
        | false => rw [hok] at this; exact .inr (.inr (.inl this))
        | true => rw [hok] at this; exact .inl ⟨d', this⟩
    · exact .inr (.inr (.inr ⟨dec_sum h1 hs, hs⟩))
/-- sealed bytes have their sum -/
theorem dec_seal (b : List UInt8) : (∃ d, dec16 (b ++ sumZ b) = (d, 0)) ∨ dec16 (b ++ sumZ b) = (zD, 160) ∨ dec16 (b ++ sumZ b) = (zD, 162) := by
  rcases dec_cases (b ++ sumZ b) with h | h | h | ⟨_, h⟩
  · exact .inl h
  · exact .inr (.inl h)
  · exact .inr (.inr h)
  · exfalso
    apply h
    have hn : (b ++ sumZ b).length - 8 = b.length := by rw [List.length_append, sumZ_len]; omega
    rw [hn, List.take_append_of_le_length (Nat.le_refl _), List.take_length, List.drop_append_of_le_length (Nat.le_refl _), List.drop_length, List.nil_append]
abbrev d16 : Dg := ⟨2, 258, 1, 0, 0, 0, [], 5⟩
theorem ok16 : okD d16 = true := by kernel_rfl
theorem op16 : opnB d16 = [101, 2, 2, 1, 0, 0, 0, 0, 0, 0, 1, 0, 5] := by kernel_rfl
set_option maxHeartbeats 4000000 in
theorem awake16_any (B : Nat) (a0 a1 a2 : Addr) (w : World) (ht : FTab w) (hE : ETab w B a0 a1 a2) : Calls Tryd.prog 5 #[] w fun e w' => e = .returned (.bool true) ∧ Still w w' := by
  have A0 := Still.alloc w (.cells (dgc d16 none 0 0) 25)
  have hb0 := newDg_b w d16 none 0 0
  have HE := hid (wenc16_yes d16 ok16 (by decide) none 0 0 _ (ht.still A0) (RdG.nil _ none))
  have hl : (encB d16).length = 21 := by rw [encB_len, op16]; rfl
  have htk : (encB d16).take 13 = [101, 2, 2, 1, 0, 0, 0, 0, 0, 0, 1, 0, 5] := by
    unfold encB
    rw [op16]
    exact List.take_left' rfl
  have HDc : Hid (dec16 (encB d16) = (d16, 0)) := hid (dec_enc ok16 (by decide))
  rw [hl] at HE
  obtain ⟨X, eX⟩ : ∃ X, encB d16 = X := ⟨_, rfl⟩
  rw [eX] at HE HDc htk
  have HDe : Hid (∀ u, Still w u → ∀ ao cap, Rd u ao 21 cap X → Calls Tryd.prog 8 #[.slice ao 21 cap] u fun e w' => DecR u w' (d16, 0) e) := hid (fun u hu ao cap hr => by
    have := wdec_any B a0 a1 a2 ao 21 cap X u (ht.still hu) hr (hE.still hu)
    rw [HDc.out] at this
    exact this)
  have HA := hid A0
  have HB0 := hid hb0
  have HT := hid htk
  clear A0 ht hE hb0 hl eX htk
  go_enter Tryd.func5, Tryd.ntmps5
  go_wp2_with fail
  refine HE.out.mono ?_
  rintro e w1 ⟨ao1, cap1, he, ho1, h1, ha1⟩
  rw [he]
  have HS1 := hid (HA.out.trans h1)
  have HO1 := hid ho1
  have HB1 := hid (HB0.out.still h1)
  have HC := hid (HDe.out w1 (HA.out.trans h1) ao1 cap1 ho1.rd)
  clear he ho1 h1 ha1 HE HB0
  go_wp2_with fail
  refine HC.out.mono ?_
  rintro e w2 ⟨co, cn, cp, he, ho2, h2⟩
  rw [he]
  have hcn : cn = 0 := ho2.len16
  subst hcn
  have A2 := Still.alloc w2 (.cells (dgc d16 co 0 cp) 25)
  have hv := newDg_b w2 d16 co 0 cp
  have hb2 := (HB1.out.still h2).still A2
  have HSm := hid (rsame16_t d16 co none 0 cp 0 (newDg w2 d16 co 0 cp) (RdG.nil _ _) (RdG.nil _ _))
  have HS2 := hid ((HS1.out.trans h2).trans A2)
  have HO2 := hid ((HO1.out.still16 h2).still16 A2)
  obtain ⟨k0, k1, k2, k3, k4, k5, k6, k7, _⟩ := hb2.cells
  clear he ho2 h2 A2 hv HC HB1 hb2 HO1 HS1
  dsimp only
  go_wp2_with fail
  refine HSm.out.mono ?_
  rintro e w3 ⟨he, h3⟩
  rw [he]
  have ho3 := HO2.out.still16 h3
  have HS3 := hid (HS2.out.trans h3)
  clear he h3 k0 k1 k2 k3 k4 k5 k6 k7 HSm HS2 HO2
  obtain ⟨i0, hi0, hz0, hs10, hb10⟩ := info_parts info_u8
  have hsu : ∀ W' : World, (Instr.slice 29 (.slice ao1 21 cap1) none (some (.int .i64 13)) none).run Tryd.prog W' = .ok (.slice ao1 13 cap1) W' := fun W' => run_upto (P := Tryd.prog) W' 29 5 i0 Tryd.underlying29 hi0 hs10 .i64 ao1 21 cap1 13 (by omega) (by have := ho3.rd.le; omega)
  have s1 := run_string (P := Tryd.prog) w3 29 5 9 Tryd.underlying29 Tryd.underlying5 Tryd.underlying9 (ho3.rd.take (i := 13) (by omega))
  rw [HT.out] at s1
  clear ho3
  go_wp2_with fail
  go_ret
  exact ⟨rfl, HS3.out⟩
set_option maxHeartbeats 4000000 in
/-- a datagram is read as it was written -/
theorem back16_law (d : Dg) (hs : 0 ≤ d.ss ∧ d.ss < 18446744073709551616) (co : Option Addr) (cn cp : Nat) (B : Nat) (a0 a1 a2 : Addr) (w : World) (ht : FTab w) (hE : ETab w B a0 a1 a2) (hr : RdG KCc w co cn d.cs) : Calls Tryd.prog 3 #[dgv d co cn cp] w fun e w' => e = .returned (.bool true) ∧ Still w w' := by
  have A0 := Still.alloc w (.cells (dgc d co cn cp) 25)
  have hb0 := newDg_b w d co cn cp
  have HAw := hid (awake16_any B a0 a1 a2 _ (ht.still A0) (hE.still A0))
  have HCk : Hid (∀ u, Still w u → Calls Tryd.prog 6 #[dgv d co cn cp] u fun e w' => e = .returned (.int .i64 (chkD d)) ∧ Still u w') := hid (fun u hu => wchk16_any d co cn cp u (hr.still hu))
  have HA := hid A0
  have HB0 := hid hb0
  cases hok : okD d with
  | false =>
    have HEn : Hid (∀ u, Still w u → Calls Tryd.prog 7 #[dgv d co cn cp] u fun e w' => e = .returned (.tuple #[.slice none 0 0, .int .i64 162]) ∧ Still u w') := hid (fun u hu => wenc16_no d hok co cn cp u (hr.still hu))
    rw [show chkD d = 162 by unfold chkD; rw [hok]; rfl] at HCk
    clear A0 ht hE hb0 hr hs hok
    go_enter Tryd.func3, Tryd.ntmps3
    go_wp2_with fail
    refine HAw.out.mono ?_
    rintro e w1 ⟨he, h1⟩
    rw [he]
    have HS1 := hid (HA.out.trans h1)
    have HB1 := hid (HB0.out.still h1)
    obtain ⟨k0, k1, k2, k3, k4, k5, k6, k7, _⟩ := HB1.out.cells
    clear he h1 HAw HB0
    go_wp2_with fail
    refine (HCk.out _ HS1.out).mono ?_
    rintro e w2 ⟨he, h2⟩
    rw [he]
    have HS2 := hid (HS1.out.trans h2)
    have HB2 := hid (HB1.out.still h2)
    clear he h2 k0 k1 k2 k3 k4 k5 k6 k7 HB1 HS1
    obtain ⟨k0, k1, k2, k3, k4, k5, k6, k7, _⟩ := HB2.out.cells
    go_wp2_with fail
    refine (HEn.out _ HS2.out).mono ?_
    rintro e w3 ⟨he, h3⟩
    rw [he]
    have HS3 := hid (HS2.out.trans h3)
    clear he h3 k0 k1 k2 k3 k4 k5 k6 k7
    go_wp2_with fail
    go_ret
    exact ⟨rfl, HS3.out⟩
  | true =>
    have hl := opnB_le hok
    have hn := encB_len d
    have HEn : Hid (∀ u, Still w u → Calls Tryd.prog 7 #[dgv d co cn cp] u fun e w' => ∃ ao cap, e = .returned (.tuple #[.slice ao (encB d).length cap, .int .i64 0]) ∧ Ow 5 w' ao (encB d).length cap (encB d) ∧ Still u w' ∧ ∀ a, ao = some a → u.heap.size ≤ a.block) := hid (fun u hu => wenc16_yes d hok hs co cn cp u (ht.still hu) (hr.still hu))
    have HDe : Hid (∀ u, Still w u → ∀ ao cap, Rd u ao (encB d).length cap (encB d) → Calls Tryd.prog 8 #[.slice ao (encB d).length cap] u fun e w' => DecR u w' (d, 0) e) := hid (fun u hu ao cap h => by
      have := wdec_any B a0 a1 a2 ao (encB d).length cap (encB d) u (ht.still hu) h (hE.still hu)
      rw [dec_enc hok hs] at this
      exact this)
    have HR := hid hr
    rw [show chkD d = 0 by unfold chkD; rw [hok]; rfl] at HCk
    obtain ⟨X, eX⟩ : ∃ X, encB d = X := ⟨_, rfl⟩
    rw [eX] at HEn HDe hn
    obtain ⟨N, eN⟩ : ∃ N, X.length = N := ⟨_, rfl⟩
    rw [eN] at HEn HDe hn
    have hn1 : (0 : Int) < (N : Int) := by omega
    have hn2 : (N : Int) ≤ 16384 := by omega
    clear A0 ht hE hb0 hr hs hok eX eN hl hn
    go_enter Tryd.func3, Tryd.ntmps3
    go_wp2_with fail
    refine HAw.out.mono ?_
    rintro e w1 ⟨he, h1⟩
    rw [he]
    have HS1 := hid (HA.out.trans h1)
    have HB1 := hid (HB0.out.still h1)
    obtain ⟨k0, k1, k2, k3, k4, k5, k6, k7, _⟩ := HB1.out.cells
    clear he h1 HAw HB0
    go_wp2_with fail
    refine (HCk.out _ HS1.out).mono ?_
    rintro e w2 ⟨he, h2⟩
    rw [he]
    have HS2 := hid (HS1.out.trans h2)
    have HB2 := hid (HB1.out.still h2)
    clear he h2 k0 k1 k2 k3 k4 k5 k6 k7 HB1 HS1
    obtain ⟨k0, k1, k2, k3, k4, k5, k6, k7, _⟩ := HB2.out.cells
    go_wp2_with fail
    refine (HEn.out _ HS2.out).mono ?_
    rintro e w3 ⟨ao3, cap3, he, ho3, h3, _⟩
    rw [he]
    have HS3 := hid (HS2.out.trans h3)
    have HB3 := hid (HB2.out.still h3)
    have HC := hid (HDe.out w3 (HS2.out.trans h3) ao3 cap3 ho3.rd)
    clear he ho3 h3 k0 k1 k2 k3 k4 k5 k6 k7 HB2 HS2 HEn HDe HCk
    go_wp2_with fail
    refine HC.out.mono ?_
    rintro e w4 ⟨co4, cn4, cp4, he, ho4, h4⟩
    rw [he]
    dsimp only at ho4 ⊢
    have hcn : cn4 = cn := by
      have e1 := ho4.len16
      have e2 := HR.out.1
      omega
    subst hcn
    have A4 := Still.alloc w4 (.cells (dgc d co4 cn4 cp4) 25)
    have hln := HR.out.1
    have hle := HR.out.2.1
    have hrd4 : RdG KCc w4 co4 cn4 d.cs := by
      rw [← hln] at ho4 ⊢
      exact ho4.rdz (by omega)
    have HSm := hid (rsame16_t d co4 co cn4 cp4 cp (newDg w4 d co4 cn4 cp4) (hrd4.still A4) (HR.out.still ((HS3.out.trans h4).trans A4)))
    have HS4 := hid ((HS3.out.trans h4).trans A4)
    have hb4 := (HB3.out.still h4).still A4
    obtain ⟨k0, k1, k2, k3, k4, k5, k6, k7, _⟩ := hb4.cells
    clear he ho4 h4 A4 hrd4 hb4 HC HB3 HS3 hln hle
    go_wp2_with fail
    refine HSm.out.mono ?_
    rintro e w5 ⟨he, h5⟩
    rw [he]
    have HS5 := hid (HS4.out.trans h5)
    clear he h5 k0 k1 k2 k3 k4 k5 k6 k7 HSm HS4
    go_wp2_with fail
    go_ret
    exact ⟨rfl, HS5.out⟩
end Go.Proofs.YtaaongbdincimaaDoor
