/- Bytes that are read are written again byte by byte. -/
import Derived.Test.YtaaongbdincimaaDoorWlb
namespace Go.Proofs.YtaaongbdincimaaDoor
open Go.RowKit
open Wp Vp
set_option maxRecDepth 100000
set_option linter.unusedVariables false
set_option linter.unusedSimpArgs false

set_option maxHeartbeats 4000000 in
theorem oneform16_law (ao : Option Addr) (n cap : Nat) (bs : List UInt8) (h47 : n + 8 ≤ 140737488355328) (B : Nat) (a0 a1 a2 : Addr) (w : World) (ht : FTab w) (hE : ETab w B a0 a1 a2) (hr : Rd w ao n cap bs) : Calls Tryd.prog 4 #[.slice ao n cap] w fun e w' => e = .returned (.bool true) ∧ Still w w' := by
  have HAw := hid (awake16_any B a0 a1 a2 w ht hE)
  have HSl : Hid (∀ u, Still w u → Calls Tryd.prog 10 #[.slice ao n cap] u fun e w' => ∃ ao' cap', e = .returned (.slice ao' (n + 8) cap') ∧ Ow 5 w' ao' (n + 8) cap' (bs ++ sumZ bs) ∧ Still u w' ∧ ∀ a, ao' = some a → u.heap.size ≤ a.block) := hid (fun u hu => rseal_any ao n cap bs u (hr.still hu) h47)
  have HDe : Hid (∀ u, Still w u → ∀ ao cap, Rd u ao (n + 8) cap (bs ++ sumZ bs) → Calls Tryd.prog 8 #[.slice ao (n + 8) cap] u fun e w' => DecR u w' (dec16 (bs ++ sumZ bs)) e) := hid (fun u hu ao cap h => wdec_any B a0 a1 a2 ao (n + 8) cap (bs ++ sumZ bs) u (ht.still hu) h (hE.still hu))
  have HSeal := dec_seal bs
  have HTb : Hid (∀ u, Still w u → FTab u) := hid (fun u hu => ht.still hu)
  obtain ⟨X, eX⟩ : ∃ X, bs ++ sumZ bs = X := ⟨_, rfl⟩
  rw [eX] at HSl HDe HSeal
  clear ht hE hr eX
  obtain ⟨N, eN⟩ : ∃ N, n + 8 = N := ⟨_, rfl⟩
  rw [eN] at HSl HDe
  clear eN h47
  rcases HSeal with ⟨d, hd⟩ | hd
  · rw [hd] at HDe
    obtain ⟨hok, henc, hss⟩ := enc_dec hd
    have HCk : Hid (∀ u co cn cp, RdG KCc u co cn d.cs → Calls Tryd.prog 6 #[dgv d co cn cp] u fun e w' => e = .returned (.int .i64 0) ∧ Still u w') := hid (fun u co cn cp h => by
      have := wchk16_any d co cn cp u h
      rw [show chkD d = 0 by unfold chkD; rw [hok]; rfl] at this
      exact this)
    have HEn : Hid (∀ u co cn cp, FTab u → RdG KCc u co cn d.cs → Calls Tryd.prog 7 #[dgv d co cn cp] u fun e w' => ∃ ao cap, e = .returned (.tuple #[.slice ao X.length cap, .int .i64 0]) ∧ Ow 5 w' ao X.length cap X ∧ Still u w' ∧ ∀ a, ao = some a → u.heap.size ≤ a.block) := hid (fun u co cn cp h1 h2 => by
      have := wenc16_yes d hok hss co cn cp u h1 h2
      rw [henc] at this
      exact this)
    have HLe : Hid (d.cs.length ≤ 336) := hid (by
      obtain ⟨_, _, h3⟩ := okD_parts hok
      rcases h3 with ⟨_, _, _, h, _⟩ | ⟨_, _, _, h⟩
      · exact h
      · rw [h]; exact Nat.zero_le _)
    obtain ⟨M, eM⟩ : ∃ M, X.length = M := ⟨_, rfl⟩
    rw [eM] at HEn
    clear hd hok henc hss eM
    go_enter Tryd.func4, Tryd.ntmps4
    go_wp2_with fail
    refine HAw.out.mono ?_
    rintro e w1 ⟨he, h1⟩
    rw [he]
    have HS1 := hid h1
    clear he h1 HAw
    go_wp2_with fail
    refine (HSl.out _ HS1.out).mono ?_
    rintro e w2 ⟨ao2, cap2, he, ho2, h2, _⟩
    rw [he]
    have HS2 := hid (HS1.out.trans h2)
    have HO2 := hid ho2
    have HC := hid (HDe.out _ (HS1.out.trans h2) ao2 cap2 ho2.rd)
    clear he ho2 h2 HS1 HSl HDe
    go_wp2_with fail
    refine HC.out.mono ?_
    rintro e w3 ⟨co, cn, cp, he, ho3, h3⟩
    rw [he]
    dsimp only at ho3 ⊢
    have hcn : cn = d.cs.length := ho3.len16
    subst hcn
    have A3 := Still.alloc w3 (.cells (dgc d co d.cs.length cp) 25)
    have HR3 := hid ((ho3.rdz (by have := HLe.out; omega)).still A3)
    have HS3 := hid ((HS2.out.trans h3).trans A3)
    have HO3 := hid ((HO2.out.still16 h3).still16 A3)
    have HV := hid (newDg_b w3 d co d.cs.length cp)
    have HCc := hid (HCk.out _ co d.cs.length cp HR3.out)
    clear he ho3 h3 A3 HC HS2 HO2 HCk
    go_wp2_with fail
    refine HCc.out.mono ?_
    rintro e w4 ⟨he, h4⟩
    rw [he]
    have HR4 := hid (HR3.out.still h4)
    have HS4 := hid (HS3.out.trans h4)
    have HO4 := hid (HO3.out.still16 h4)
    have HE4 := hid (HEn.out w4 co d.cs.length cp (HTb.out _ (HS3.out.trans h4)) (HR3.out.still h4))
    obtain ⟨k0, k1, k2, k3, k4, k5, k6, k7, _⟩ := (HV.out.still h4).cells
    clear he h4 HCc HR3 HS3 HO3 HV HEn
    go_wp2_with fail
    refine HE4.out.mono ?_
    rintro e w5 ⟨ao5, cap5, he, ho5, h5, _⟩
    rw [he]
    have HS5 := hid (HS4.out.trans h5)
    have s1 := run_string (P := Tryd.prog) w5 29 5 9 Tryd.underlying29 Tryd.underlying5 Tryd.underlying9 ho5.rd
    have s2 := run_string (P := Tryd.prog) w5 29 5 9 Tryd.underlying29 Tryd.underlying5 Tryd.underlying9 (HO4.out.still16 h5).rd
    obtain ⟨S, eS⟩ : ∃ S, (⟨X.toArray⟩ : ByteArray) = S := ⟨_, rfl⟩
    rw [eS] at s1 s2
    clear he ho5 h5 k0 k1 k2 k3 k4 k5 k6 k7 HE4 HR4 HS4 HO4 eS
    go_wp2_with fail
    go_ret
    exact ⟨by simp, HS5.out⟩
  · have key : ∃ r : Int, dec16 X = (zD, r) ∧ (r = 160 ∨ r = 162) := by
      rcases hd with h | h
      · exact ⟨160, h, .inl rfl⟩
      · exact ⟨162, h, .inr rfl⟩
    obtain ⟨r, hd, hrr⟩ := key
    rw [hd] at HDe
    clear hd
    rcases hrr with rfl | rfl
    all_goals
      go_enter Tryd.func4, Tryd.ntmps4
      go_wp2_with fail
      refine HAw.out.mono ?_
      rintro e w1 ⟨he, h1⟩
      rw [he]
      have HS1 := hid h1
      clear he h1
      go_wp2_with fail
      refine (HSl.out _ HS1.out).mono ?_
      rintro e w2 ⟨ao2, cap2, he, ho2, h2, _⟩
      rw [he]
      have HS2 := hid (HS1.out.trans h2)
      have HC := hid (HDe.out _ (HS1.out.trans h2) ao2 cap2 ho2.rd)
      clear he ho2 h2 HS1
      go_wp2_with fail
      refine HC.out.mono ?_
      rintro e w3 ⟨co, cn, cp, he, ho3, h3⟩
      rw [he]
      dsimp only at ho3 ⊢
      have hcn : cn = 0 := ho3.len16
      subst hcn
      have A3 := Still.alloc w3 (.cells (dgc zD co 0 cp) 25)
      have HSm := hid (rsame16_t zD co none 0 cp 0 (newDg w3 zD co 0 cp) (RdG.nil _ _) (RdG.nil _ _))
      have HS3 := hid ((HS2.out.trans h3).trans A3)
      clear he ho3 h3 A3 HC HS2
      dsimp only [zD]
      go_wp2_with fail
      refine HSm.out.mono ?_
      rintro e w4 ⟨he, h4⟩
      rw [he]
      have HS4 := hid (HS3.out.trans h4)
      clear he h4 HSm HS3
      go_wp2_with fail
      go_ret
      exact ⟨rfl, HS4.out⟩
end Go.Proofs.YtaaongbdincimaaDoor
