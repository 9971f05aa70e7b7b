/- The document's Check of a datagram: the whole. -/
import Derived.Test.YtaaongbdincimaaGreatDoorWdc
namespace Go.Proofs.YtaaongbdincimaaGreatDoor
open Go.RowKit
open Wp Vp
set_option maxRecDepth 100000
set_option linter.unusedVariables false
set_option linter.unusedSimpArgs false

theorem okD_no {d : Dg} (h : okD d = true → False) : chkD d = 162 := by
  unfold chkD
  cases hb : okD d with
  | false => rfl
  | true => exact (h hb).elim
set_option maxHeartbeats 4000000 in
theorem rchkd_no (d : Dg) (co : Option Addr) (cn cp : Nat) (w : World) (hln : d.cs.length = cn)
    (key : d.fr < 0 ∨ (¬ d.fr < 0 ∧ 5 < d.fr) ∨ (¬ d.fr < 0 ∧ ¬ 5 < d.fr ∧ d.to < 0) ∨ (¬ d.fr < 0 ∧ ¬ 5 < d.fr ∧ ¬ d.to < 0 ∧ 5 < d.to) ∨ (¬ d.fr < 0 ∧ ¬ 5 < d.fr ∧ ¬ d.to < 0 ∧ ¬ 5 < d.to ∧ (d.fr == d.to) = true) ∨ (¬ d.fr < 0 ∧ ¬ 5 < d.fr ∧ ¬ d.to < 0 ∧ ¬ 5 < d.to ∧ (d.fr == d.to) = false ∧ d.ak < 0) ∨ (¬ d.fr < 0 ∧ ¬ 5 < d.fr ∧ ¬ d.to < 0 ∧ ¬ 5 < d.to ∧ (d.fr == d.to) = false ∧ ¬ d.ak < 0 ∧ 1099511627776 < d.ak)) :
    Calls Tryz.prog 8 #[dgv d co cn cp] w fun e w' => e = .returned (.int .i64 162) ∧ Still w w' := by
  have HA := hid (Still.alloc w (.cells (dgc d co cn cp) 25))
  obtain ⟨m0, m1, m2, m3, m4, m5, m6, m7, _⟩ := (newDg_b w d co cn cp).cells
  obtain ⟨kd, ss, fr, tt, mk, fi, cs, ak⟩ := d
  dsimp only at key m0 m1 m2 m3 m4 m5 m6 m7 hln
  rcases key with h | ⟨h, h1⟩ | ⟨h, h1, h2⟩ | ⟨h, h1, h2, h3⟩ | ⟨h, h1, h2, h3, h4⟩ | ⟨h, h1, h2, h3, h4, h5⟩ | ⟨h, h1, h2, h3, h4, h5, h6⟩
  · go_enter Tryz.func8, Tryz.ntmps8
    go_wp2_with fail
    go_ret
    exact ⟨rfl, HA.out⟩
  · go_enter Tryz.func8, Tryz.ntmps8
    go_wp2_with fail
    go_ret
    exact ⟨rfl, HA.out⟩
  · go_enter Tryz.func8, Tryz.ntmps8
    go_wp2_with fail
    go_ret
    exact ⟨rfl, HA.out⟩
  · go_enter Tryz.func8, Tryz.ntmps8
    go_wp2_with fail
    go_ret
    exact ⟨rfl, HA.out⟩
  · obtain rfl : fr = tt := by simpa using h4
    go_enter Tryz.func8, Tryz.ntmps8
    go_wp2_with fail
    go_ret
    exact ⟨rfl, HA.out⟩
  · go_enter Tryz.func8, Tryz.ntmps8
    go_wp2_with fail
    go_ret
    exact ⟨rfl, HA.out⟩
  · go_enter Tryz.func8, Tryz.ntmps8
    go_wp2_with fail
    go_ret
    exact ⟨rfl, HA.out⟩
/-- seats and the number of the last one are as they may be -/
structure Sok (d : Dg) : Prop where
  a : ¬ d.fr < 0 ∧ ¬ 5 < d.fr ∧ ¬ d.to < 0 ∧ ¬ 5 < d.to
  b : (d.fr == d.to) = false
  c : ¬ d.ak < 0 ∧ ¬ 1099511627776 < d.ak
set_option maxHeartbeats 4000000 in
theorem rchkd_ack (d : Dg) (co : Option Addr) (cp : Nat) (w : World) (hs : Sok d) (h1 : d.kd = 2) (h2 : d.mrk = 0) (h3 : d.fi = 0) :
    Calls Tryz.prog 8 #[dgv d co 0 cp] w fun e w' => e = .returned (.int .i64 0) ∧ Still w w' := by
  have HA := hid (Still.alloc w (.cells (dgc d co 0 cp) 25))
  obtain ⟨m0, m1, m2, m3, m4, m5, m6, m7, _⟩ := (newDg_b w d co 0 cp).cells
  obtain ⟨⟨s1, s2, s3, s4⟩, s5, s6, s7⟩ := hs
  obtain ⟨kd, ss, fr, tt, mk, fi, cs, ak⟩ := d
  dsimp only at h1 h2 h3 m0 m1 m2 m3 m4 m5 m6 m7 s1 s2 s3 s4 s5 s6 s7
  subst h1 h2 h3
  go_enter Tryz.func8, Tryz.ntmps8
  go_wp2_with fail
  go_ret
  exact ⟨rfl, HA.out⟩
set_option maxHeartbeats 4000000 in
theorem rchkd_kind (d : Dg) (co : Option Addr) (cn cp : Nat) (w : World) (hs : Sok d)
    (key : ((d.kd == 2) = true ∧ (d.mrk == 0) = false) ∨ ((d.kd == 2) = true ∧ (d.mrk == 0) = true ∧ (d.fi == 0) = false) ∨ ((d.kd == 2) = true ∧ (d.mrk == 0) = true ∧ (d.fi == 0) = true ∧ ((cn : Int) == 0) = false) ∨ ((d.kd == 2) = false ∧ (d.kd == 1) = false)
      ∨ ((d.kd == 1) = true ∧ d.mrk < 0) ∨ ((d.kd == 1) = true ∧ ¬ d.mrk < 0 ∧ 1099511627776 < d.mrk) ∨ ((d.kd == 1) = true ∧ ¬ d.mrk < 0 ∧ ¬ 1099511627776 < d.mrk ∧ d.fi < 1) ∨ ((d.kd == 1) = true ∧ ¬ d.mrk < 0 ∧ ¬ 1099511627776 < d.mrk ∧ ¬ d.fi < 1 ∧ 1099511627776 < d.fi) ∨ ((d.kd == 1) = true ∧ ¬ d.mrk < 0 ∧ ¬ 1099511627776 < d.mrk ∧ ¬ d.fi < 1 ∧ ¬ 1099511627776 < d.fi ∧ (336 : Int) < (cn : Int))) :
    Calls Tryz.prog 8 #[dgv d co cn cp] w fun e w' => e = .returned (.int .i64 162) ∧ Still w w' := by
  have HA := hid (Still.alloc w (.cells (dgc d co cn cp) 25))
  obtain ⟨m0, m1, m2, m3, m4, m5, m6, m7, _⟩ := (newDg_b w d co cn cp).cells
  obtain ⟨⟨s1, s2, s3, s4⟩, s5, s6, s7⟩ := hs
  obtain ⟨kd, ss, fr, tt, mk, fi, cs, ak⟩ := d
  dsimp only at key m0 m1 m2 m3 m4 m5 m6 m7 s1 s2 s3 s4 s5 s6 s7
  rcases key with ⟨h, h1⟩ | ⟨h, h1, h2⟩ | ⟨h, h1, h2, h3⟩ | ⟨h, h1⟩ | ⟨h, h1⟩ | ⟨h, h1, h2⟩ | ⟨h, h1, h2, h3⟩ | ⟨h, h1, h2, h3, h4⟩ | ⟨h, h1, h2, h3, h4, h5⟩
  · obtain rfl : kd = 2 := by simpa using h
    go_enter Tryz.func8, Tryz.ntmps8
    go_wp2_with fail
    go_ret
    exact ⟨rfl, HA.out⟩
  · obtain rfl : kd = 2 := by simpa using h
    obtain rfl : mk = 0 := by simpa using h1
    go_enter Tryz.func8, Tryz.ntmps8
    go_wp2_with fail
    go_ret
    exact ⟨rfl, HA.out⟩
  · obtain rfl : kd = 2 := by simpa using h
    obtain rfl : mk = 0 := by simpa using h1
    obtain rfl : fi = 0 := by simpa using h2
    go_enter Tryz.func8, Tryz.ntmps8
    go_wp2_with fail
    go_ret
    exact ⟨rfl, HA.out⟩
  · have h1' : (kd != 1) = true := by simpa using h1
    go_enter Tryz.func8, Tryz.ntmps8
    go_wp2_with fail
    go_ret
    exact ⟨rfl, HA.out⟩
  · obtain rfl : kd = 1 := by simpa using h
    go_enter Tryz.func8, Tryz.ntmps8
    go_wp2_with fail
    go_ret
    exact ⟨rfl, HA.out⟩
  · obtain rfl : kd = 1 := by simpa using h
    go_enter Tryz.func8, Tryz.ntmps8
    go_wp2_with fail
    go_ret
    exact ⟨rfl, HA.out⟩
  · obtain rfl : kd = 1 := by simpa using h
    go_enter Tryz.func8, Tryz.ntmps8
    go_wp2_with fail
    go_ret
    exact ⟨rfl, HA.out⟩
  · obtain rfl : kd = 1 := by simpa using h
    go_enter Tryz.func8, Tryz.ntmps8
    go_wp2_with fail
    go_ret
    exact ⟨rfl, HA.out⟩
  · obtain rfl : kd = 1 := by simpa using h
    go_enter Tryz.func8, Tryz.ntmps8
    go_wp2_with fail
    go_ret
    exact ⟨rfl, HA.out⟩
set_option maxHeartbeats 4000000 in
theorem rchkd_turn (d : Dg) (co : Option Addr) (cn cp : Nat) (w : World) (ht : OTab w) (hr : RdG KCc w co cn d.cs) (hs : Sok d) (hk : d.kd = 1) (hm : ¬ d.mrk < 0 ∧ ¬ 1099511627776 < d.mrk) (hf : ¬ d.fi < 1 ∧ ¬ 1099511627776 < d.fi) (hcn : ¬ (336 : Int) < (cn : Int)) :
    Calls Tryz.prog 8 #[dgv d co cn cp] w fun e w' => e = .returned (.int .i64 (if allC d.fr d.fi d.cs then 0 else 162)) ∧ Still w w' := by
  have A0 := Still.alloc w (.cells (dgc d co cn cp) 25)
  have hb0 := newDg_b w d co cn cp
  have HR := hid (hr.still A0)
  have HT := hid (ht.still A0)
  obtain ⟨W, eW⟩ : ∃ W, w.alloc (.cells (dgc d co cn cp) 25) = W := ⟨_, rfl⟩
  obtain ⟨g, eg⟩ : ∃ g, w.heap.size = g := ⟨_, rfl⟩
  unfold newDg at hb0
  rw [eW] at A0 hb0 HR HT
  rw [eg] at hb0
  have HA := hid A0
  have HB := hid hb0
  have HL := hid hr.1
  obtain ⟨m0, m1, m2, m3, m4, m5, m6, m7, _⟩ := hb0.cells
  obtain ⟨⟨s1, s2, s3, s4⟩, s5, s6, s7⟩ := hs
  obtain ⟨hm1, hm2⟩ := hm
  obtain ⟨hf1, hf2⟩ := hf
  have hC : ∀ u (i : Nat), Still W u → i < cn → Calls Tryz.prog 19 #[dgv d co cn cp, .int .i64 (i : Int)] u fun e w' => e = .returned (.bool (okC d.fr d.fi i (cc d.cs i))) ∧ Still u w' := fun u i hu hi => rcmd16_any d co cn cp i hi (by omega) (by omega) u (HT.out.still hu) (HR.out.still hu)
  have HC := hid hC
  obtain ⟨Z, eZ⟩ : ∃ Z, allC d.fr d.fi d.cs = Z := ⟨_, rfl⟩
  have HYes : Hid ((∀ j, j < cn → okC d.fr d.fi j (cc d.cs j) = true) → Z = true) := hid (fun h => by rw [← eZ]; exact allC_iff.2 (fun j hj => h j (by rw [HL.out] at hj; exact hj)))
  have HNo : Hid (∀ j, j < cn → okC d.fr d.fi j (cc d.cs j) = false → Z = false) := hid (fun j hj h => by rw [← eZ]; exact all_no (by rw [HL.out]; exact hj) h)
  rw [eZ]
  obtain ⟨kd, ss, fr, tt, mk, fi, cs, ak⟩ := d
  dsimp only at hk hm1 hm2 hf1 hf2 m0 m1 m2 m3 m4 m5 m6 m7 s1 s2 s3 s4 s5 s6 s7
  subst hk
  clear A0 hb0 hr ht hC eZ HR HT
  go_enter Tryz.func8, Tryz.ntmps8
  go_wp2_with fail
  clear m0 m1 m2 m3 m4 m5 m6 m7
  go_loopw [3, 4] (fun u3 u4 wr => ∃ i : Nat, i ≤ cn ∧ u3 = .int .i64 (i : Int) ∧ Hid (∀ j, j < i → okC fr fi j (cc cs j) = true) ∧ Hid (Still W wr)) (fun u3 _ _ => cn - (intOf u3).toNat)
  case atStart => exact ⟨0, by omega, rfl, hid (fun j hj => by omega), hid (Fr.refl _ _)⟩
  case round =>
    obtain ⟨i, hi, rfl, HP, HS⟩ := hrel
    obtain ⟨m0, m1, m2, m3, m4, m5, m6, m7, _⟩ := (HB.out.still HS.out).cells
    by_cases hin : i < cn
    · have hlt : (i : Int) < (cn : Int) := by omega
      have HCi := hid (HC.out wr i HS.out hin)
      have HNi := hid (HNo.out i hin)
      try dsimp only at HCi
      try dsimp only at HNi
      have HPi : Hid (okC fr fi i (cc cs i) = true → ∀ j, j < i + 1 → okC fr fi j (cc cs j) = true) := hid (fun h j hj => by
        by_cases e : j = i
        · rw [e]; exact h
        · exact HP.out j (by omega))
      obtain ⟨b, eb⟩ : ∃ b, okC fr fi i (cc cs i) = b := ⟨_, rfl⟩
      rw [eb] at HCi HNi HPi
      clear eb
      go_wp2_with fail
      refine HCi.out.mono ?_
      rintro e w2 ⟨he, h2⟩
      rw [he]
      have HS2 := hid (HS.out.trans h2)
      clear he h2 HCi m0 m1 m2 m3 m4 m5 m6 m7
      cases b with
      | true =>
        go_wp2_with fail
        go_roundw
        case rel => exact ⟨i + 1, by omega, by go_num, hid (HPi.out (by first | rfl | trivial)), HS2⟩
        case measure => simp [intOf]; omega
      | false =>
        have hZ := HNi.out rfl
        subst hZ
        go_wp2_with fail
        go_ret
        exact ⟨rfl, HA.out.trans HS2.out⟩
    · have hge : ¬ (i : Int) < (cn : Int) := by omega
      have hZ := HYes.out (fun j hj => HP.out j (by omega))
      subst hZ
      go_wp2_with fail
      go_ret
      exact ⟨rfl, HA.out.trans HS.out⟩
theorem rchkd_any (d : Dg) (co : Option Addr) (cn cp : Nat) (w : World) (ht : OTab w) (hr : RdG KCc w co cn d.cs) : Calls Tryz.prog 8 #[dgv d co cn cp] w fun e w' => e = .returned (.int .i64 (chkD d)) ∧ Still w w' := by
  have hln := hr.1
  have hl0 : d.cs = [] ↔ cn = 0 := by
    rw [← hln]
    exact List.length_eq_zero_iff.symm
  by_cases hs : Sok d
  · by_cases k1 : d.kd = 1
    · by_cases hm : ¬ d.mrk < 0 ∧ ¬ 1099511627776 < d.mrk
      · by_cases hf : ¬ d.fi < 1 ∧ ¬ 1099511627776 < d.fi
        · by_cases hcn : (336 : Int) < (cn : Int)
          · rw [okD_no (fun h => by
              obtain ⟨p1, p2, p3⟩ := okD_parts h
              rcases p3 with p | p
              · have := p.2.2.2.1; omega
              · omega)]
            exact rchkd_kind d co cn cp w hs (.inr (.inr (.inr (.inr (.inr (.inr (.inr (.inr ⟨by simpa using k1, hm.1, hm.2, hf.1, hf.2, hcn⟩))))))))
          · have := rchkd_turn d co cn cp w ht hr hs k1 hm hf hcn
            rw [show chkD d = if allC d.fr d.fi d.cs then 0 else 162 by
              obtain ⟨⟨s1, s2, s3, s4⟩, s5, s6, s7⟩ := hs
              unfold chkD okD
              rw [show seatB d = true by unfold seatB; simp at s5; simp; omega, show ackB d = true by unfold ackB; simp; omega]
              unfold Wp.prtB
              rw [if_pos k1]
              unfold trnB
              rw [show decide (0 ≤ d.mrk) = true by simp; omega, show decide (d.mrk ≤ 1099511627776) = true by simp; omega, show decide (1 ≤ d.fi) = true by simp; omega, show decide (d.fi ≤ 1099511627776) = true by simp; omega, show decide (d.cs.length ≤ 336) = true by simp; omega]
              simp]
            exact this
        · rw [okD_no (fun h => by
            obtain ⟨p1, p2, p3⟩ := okD_parts h
            rcases p3 with p | p
            · have := p.2.2.1; omega
            · omega)]
          refine rchkd_kind d co cn cp w hs ?_
          by_cases h : d.fi < 1
          · exact .inr (.inr (.inr (.inr (.inr (.inr (.inl ⟨by simpa using k1, hm.1, hm.2, h⟩))))))
          · exact .inr (.inr (.inr (.inr (.inr (.inr (.inr (.inl ⟨by simpa using k1, hm.1, hm.2, h, by omega⟩)))))))
      · rw [okD_no (fun h => by
          obtain ⟨p1, p2, p3⟩ := okD_parts h
          rcases p3 with p | p
          · have := p.2.1; omega
          · omega)]
        refine rchkd_kind d co cn cp w hs ?_
        by_cases h : d.mrk < 0
        · exact .inr (.inr (.inr (.inr (.inl ⟨by simpa using k1, h⟩))))
        · exact .inr (.inr (.inr (.inr (.inr (.inl ⟨by simpa using k1, h, by omega⟩)))))
    · by_cases k2 : d.kd = 2
      · by_cases hm : d.mrk = 0
        · by_cases hf : d.fi = 0
          · by_cases hc : cn = 0
            · subst hc
              have := rchkd_ack d co cp w hs k2 hm hf
              rw [show chkD d = 0 by
                obtain ⟨⟨s1, s2, s3, s4⟩, s5, s6, s7⟩ := hs
                unfold chkD okD
                rw [show seatB d = true by unfold seatB; simp at s5; simp; omega, show ackB d = true by unfold ackB; simp; omega]
                unfold Wp.prtB
                rw [if_neg k1, if_pos k2]
                unfold nonB
                rw [hm, hf, hln]
                rfl]
              exact this
            · rw [okD_no (fun h => by
                obtain ⟨p1, p2, p3⟩ := okD_parts h
                rcases p3 with p | p
                · omega
                · exact hc (hl0.1 p.2.2.2))]
              exact rchkd_kind d co cn cp w hs (.inr (.inr (.inl ⟨by simpa using k2, by simpa using hm, by simpa using hf, by simpa using hc⟩)))
          · rw [okD_no (fun h => by
              obtain ⟨p1, p2, p3⟩ := okD_parts h
              rcases p3 with p | p <;> omega)]
            exact rchkd_kind d co cn cp w hs (.inr (.inl ⟨by simpa using k2, by simpa using hm, by simpa using hf⟩))
        · rw [okD_no (fun h => by
            obtain ⟨p1, p2, p3⟩ := okD_parts h
            rcases p3 with p | p <;> omega)]
          exact rchkd_kind d co cn cp w hs (.inl ⟨by simpa using k2, by simpa using hm⟩)
      · rw [okD_no (fun h => by
          obtain ⟨p1, p2, p3⟩ := okD_parts h
          rcases p3 with p | p <;> omega)]
        exact rchkd_kind d co cn cp w hs (.inr (.inr (.inr (.inl ⟨by simpa using k2, by simpa using k1⟩))))
  · have hno : okD d = true → False := fun h => by
      obtain ⟨p1, p2, p3⟩ := okD_parts h
      exact hs ⟨by omega, by simpa using p1.2.2.2.2, by omega⟩
    rw [okD_no hno]
    refine rchkd_no d co cn cp w hln ?_
    by_cases h1 : d.fr < 0
    · exact .inl h1
    · by_cases h2 : 5 < d.fr
      · exact .inr (.inl ⟨h1, h2⟩)
      · by_cases h3 : d.to < 0
        · exact .inr (.inr (.inl ⟨h1, h2, h3⟩))
        · by_cases h4 : 5 < d.to
          · exact .inr (.inr (.inr (.inl ⟨h1, h2, h3, h4⟩)))
          · cases h5 : (d.fr == d.to) with
            | true => exact .inr (.inr (.inr (.inr (.inl ⟨h1, h2, h3, h4, rfl⟩))))
            | false =>
              by_cases h6 : d.ak < 0
              · exact .inr (.inr (.inr (.inr (.inr (.inl ⟨h1, h2, h3, h4, rfl, h6⟩)))))
              · by_cases h7 : 1099511627776 < d.ak
                · exact .inr (.inr (.inr (.inr (.inr (.inr ⟨h1, h2, h3, h4, rfl, h6, h7⟩)))))
                · exact (hs ⟨⟨h1, h2, h3, h4⟩, h5, h6, h7⟩).elim
end Go.Proofs.YtaaongbdincimaaGreatDoor
