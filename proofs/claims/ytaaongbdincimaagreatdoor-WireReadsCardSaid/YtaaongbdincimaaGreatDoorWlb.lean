/- The chapter's first example; a datagram is read as it was written; bytes that are read are written again. -/
import Derived.Test.YtaaongbdincimaaGreatDoorWrk
import Derived.Test.YtaaongbdincimaaGreatDoorWla
namespace Go.Proofs.YtaaongbdincimaaGreatDoor
open Go.RowKit
open Wp Vp
set_option maxRecDepth 100000
set_option linter.unusedVariables false
set_option linter.unusedSimpArgs false

/-- bytes of a datagram that may be are read as it -/
theorem dec_enc {d : Dg} (h : okD d = true) (hs : 0 ≤ d.ss ∧ d.ss < 18446744073709551616) : dec16 (encB d) = (d, 0) := by
  have hl := opnB_le h
  have hn := encB_len d
  have h1 : ¬ (16384 < (encB d).length ∨ (encB d).length < 8) := by omega
  have ht : (encB d).take ((encB d).length - 8) = opnB d := by
    rw [hn, Nat.add_sub_cancel]
    unfold encB
    rw [List.take_append_of_le_length (Nat.le_refl _), List.take_length]
  have hd : (encB d).drop ((encB d).length - 8) = sumZ (opnB d) := by
    rw [hn, Nat.add_sub_cancel]
    unfold encB
    rw [List.drop_append_of_le_length (Nat.le_refl _), List.drop_length, List.nil_append]
  rw [dec_some h1 (by rw [ht, hd]) (by rw [ht]; exact says_form h hs), h]
  rfl
/-- bytes that say a datagram are its bytes -/
theorem enc_dec {b : List UInt8} {d : Dg} (h : dec16 b = (d, 0)) : okD d = true ∧ encB d = b ∧ (0 ≤ d.ss ∧ d.ss < 18446744073709551616) := by
  by_cases h1 : 16384 < b.length ∨ b.length < 8
  · rw [dec_len h1] at h; cases h
  · by_cases hs : sumZ (b.take (b.length - 8)) = b.drop (b.length - 8)
    · cases hd : saysD (b.take (b.length - 8)) with
      | none => rw [dec_none h1 hs hd] at h; cases h
      | some d' =>
        rw [dec_some h1 hs hd] at h
        cases hok : okD d' with
        | false => rw [hok] at h; cases h
        | true =>
          rw [hok] at h
          cases h
          obtain ⟨e1, e2⟩ := says_back hd
          refine ⟨hok, ?_, e2⟩
          unfold encB
          rw [← e1, hs, List.take_append_drop]
    · rw [dec_sum h1 hs] at h; cases h
theorem dec_cases (b : List UInt8) : (∃ d, dec16 b = (d, 0)) ∨ dec16 b = (zD, 160) ∨ dec16 b = (zD, 162) ∨ (dec16 b = (zD, 161) ∧ sumZ (b.take (b.length - 8)) ≠ b.drop (b.length - 8)) := by
  by_cases h1 : 16384 < b.length ∨ b.length < 8
  · exact .inr (.inl (dec_len h1))
  · by_cases hs : sumZ (b.take (b.length - 8)) = b.drop (b.length - 8)
    · cases hd : saysD (b.take (b.length - 8)) with
      | none => exact .inr (.inl (dec_none h1 hs hd))
      | some d' =>
        have := dec_some h1 hs hd
        cases hok : okD d' with
        | false => rw [hok] at this; exact .inr (.inr (.inl this))
        | true => rw [hok] at this; exact .inl ⟨d', this⟩
    · exact .inr (.inr (.inr ⟨dec_sum h1 hs, hs⟩))
/-- sealed bytes have their sum -/
theorem dec_seal (b : List UInt8) : (∃ d, dec16 (b ++ sumZ b) = (d, 0)) ∨ dec16 (b ++ sumZ b) = (zD, 160) ∨ dec16 (b ++ sumZ b) = (zD, 162) := by
  rcases dec_cases (b ++ sumZ b) with h | h | h | ⟨_, h⟩
  · exact .inl h
  · exact .inr (.inl h)
  · exact .inr (.inr h)
  · exfalso
    apply h
    have hn : (b ++ sumZ b).length - 8 = b.length := by rw [List.length_append, sumZ_len]; omega
    rw [hn, List.take_append_of_le_length (Nat.le_refl _), List.take_length, List.drop_append_of_le_length (Nat.le_refl _), List.drop_length, List.nil_append]
abbrev d16 : Dg := ⟨2, 258, 1, 0, 0, 0, [], 5⟩
theorem ok16 : okD d16 = true := by kernel_rfl
theorem op16 : opnB d16 = [101, 2, 2, 1, 0, 0, 0, 0, 0, 0, 1, 0, 5] := by kernel_rfl
set_option maxHeartbeats 4000000 in
theorem awake16_any (B : Nat) (a0 a1 a2 : Addr) (w : World) (ht : FTab w) (hE : ETab w B a0 a1 a2) : Calls Tryz.prog 5 #[] w fun e w' => e = .returned (.bool true) ∧ Still w w' := by
  have A0 := Still.alloc w (.cells (dgc d16 none 0 0) 25)
  have hb0 := newDg_b w d16 none 0 0
  have HE := hid (wenc16_yes d16 ok16 (by decide) none 0 0 _ (ht.still A0) (RdG.nil _ none))
  have hl : (encB d16).length = 21 := by rw [encB_len, op16]; rfl
  have htk : (encB d16).take 13 = [101, 2, 2, 1, 0, 0, 0, 0, 0, 0, 1, 0, 5] := by
    unfold encB
    rw [op16]
    exact List.take_left' rfl
  have HDc : Hid (dec16 (encB d16) = (d16, 0)) := hid (dec_enc ok16 (by decide))
  rw [hl] at HE
  obtain ⟨X, eX⟩ : ∃ X, encB d16 = X := ⟨_, rfl⟩
  rw [eX] at HE HDc htk
  have HDe : Hid (∀ u, Still w u → ∀ ao cap, Rd u ao 21 cap X → Calls Tryz.prog 12 #[.slice ao 21 cap] u fun e w' => DecR u w' (d16, 0) e) := hid (fun u hu ao cap hr => by
    have := wdec_any B a0 a1 a2 ao 21 cap X u (ht.still hu) hr (hE.still hu)
    rw [HDc.out] at this
    exact this)
  have HA := hid A0
  have HB0 := hid hb0
  have HT := hid htk
  clear A0 ht hE hb0 hl eX htk
  go_enter Tryz.func5, Tryz.ntmps5
  go_wp2_with fail
  refine HE.out.mono ?_
  rintro e w1 ⟨ao1, cap1, he, ho1, h1, ha1⟩
  rw [he]
  have HS1 := hid (HA.out.trans h1)
  have HO1 := hid ho1
  have HB1 := hid (HB0.out.still h1)
  have HC := hid (HDe.out w1 (HA.out.trans h1) ao1 cap1 ho1.rd)
  clear he ho1 h1 ha1 HE HB0
  go_wp2_with fail
  refine HC.out.mono ?_
  rintro e w2 ⟨co, cn, cp, he, ho2, h2⟩
  rw [he]
  have hcn : cn = 0 := ho2.len16
  subst hcn
  have A2 := Still.alloc w2 (.cells (dgc d16 co 0 cp) 25)
  have hv := newDg_b w2 d16 co 0 cp
  have hb2 := (HB1.out.still h2).still A2
  have HSm := hid (rsame16_t d16 co none 0 cp 0 (newDg w2 d16 co 0 cp) (RdG.nil _ _) (RdG.nil _ _))
  have HS2 := hid ((HS1.out.trans h2).trans A2)
  have HO2 := hid ((HO1.out.still16 h2).still16 A2)
  obtain ⟨k0, k1, k2, k3, k4, k5, k6, k7, _⟩ := hb2.cells
  clear he ho2 h2 A2 hv HC HB1 hb2 HO1 HS1
  dsimp only
  go_wp2_with fail
  refine HSm.out.mono ?_
  rintro e w3 ⟨he, h3⟩
  rw [he]
  have ho3 := HO2.out.still16 h3
  have HS3 := hid (HS2.out.trans h3)
  clear he h3 k0 k1 k2 k3 k4 k5 k6 k7 HSm HS2 HO2
  obtain ⟨i0, hi0, hz0, hs10, hb10⟩ := info_parts info_u8
  have hsu : ∀ W' : World, (Instr.slice 31 (.slice ao1 21 cap1) none (some (.int .i64 13)) none).run Tryz.prog W' = .ok (.slice ao1 13 cap1) W' := fun W' => run_upto (P := Tryz.prog) W' 31 5 i0 Tryz.underlying31 hi0 hs10 .i64 ao1 21 cap1 13 (by omega) (by have := ho3.rd.le; omega)
  have s1 := run_string (P := Tryz.prog) w3 31 5 9 Tryz.underlying31 Tryz.underlying5 Tryz.underlying9 (ho3.rd.take (i := 13) (by omega))
  rw [HT.out] at s1
  clear ho3
  go_wp2_with fail
  go_ret
  exact ⟨rfl, HS3.out⟩
end Go.Proofs.YtaaongbdincimaaGreatDoor
