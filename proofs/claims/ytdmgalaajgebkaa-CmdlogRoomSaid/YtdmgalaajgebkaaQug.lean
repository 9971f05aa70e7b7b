/- The library's heap: up. -/
import Derived.Test.YtdmgalaajgebkaaQuf
namespace Go.Proofs.Ytdmgalaajgebkaa
open Go.RowKit
set_option maxRecDepth 100000

abbrev qif (p : Nat) : Value := .iface 93 (.pointer (some ⟨p, 0, none⟩))
theorem m_less {p : Nat} {w : World} {ao : Option Addr} {n cap : Nat} (hc : w.cell? ⟨p, 0, none⟩ = some (.slice ao n cap)) : Sem.run Try.prog (method 246 93 (.pointer (some ⟨p, 0, none⟩)) "Less") w = .ok (101, .slice ao n cap) w := by
  obtain ⟨m, h1, h2, h3⟩ : ∃ m, Array.find? (fun x => x.name == "Less") Try.t93.methods = some m ∧ m.path = #[] ∧ m.func = some (101, false) := ⟨_, rfl, rfl, rfl⟩
  exact m_row "Less" _ m h1 h2 h3 p w ao n cap hc
theorem m_swap {p : Nat} {w : World} {ao : Option Addr} {n cap : Nat} (hc : w.cell? ⟨p, 0, none⟩ = some (.slice ao n cap)) : Sem.run Try.prog (method 246 93 (.pointer (some ⟨p, 0, none⟩)) "Swap") w = .ok (102, .slice ao n cap) w := by
  obtain ⟨m, h1, h2, h3⟩ : ∃ m, Array.find? (fun x => x.name == "Swap") Try.t93.methods = some m ∧ m.path = #[] ∧ m.func = some (102, false) := ⟨_, rfl, rfl, rfl⟩
  exact m_row "Swap" _ m h1 h2 h3 p w ao n cap hc
theorem m_len {p : Nat} {w : World} {ao : Option Addr} {n cap : Nat} (hc : w.cell? ⟨p, 0, none⟩ = some (.slice ao n cap)) : Sem.run Try.prog (method 246 93 (.pointer (some ⟨p, 0, none⟩)) "Len") w = .ok (100, .slice ao n cap) w := by
  obtain ⟨m, h1, h2, h3⟩ : ∃ m, Array.find? (fun x => x.name == "Len") Try.t93.methods = some m ∧ m.path = #[] ∧ m.func = some (100, false) := ⟨_, rfl, rfl, rfl⟩
  exact m_row "Len" _ m h1 h2 h3 p w ao n cap hc
theorem m_push {p : Nat} {w : World} : Sem.run Try.prog (method 246 93 (.pointer (some ⟨p, 0, none⟩)) "Push") w = .ok (103, .pointer (some ⟨p, 0, none⟩)) w := by
  obtain ⟨m, h1, h2, h3⟩ : ∃ m, Array.find? (fun x => x.name == "Push") Try.t93.methods = some m ∧ m.path = #[] ∧ m.func = some (103, true) := ⟨_, rfl, rfl, rfl⟩
  exact m_ptr "Push" _ m h1 h2 h3 p w
set_option maxHeartbeats 2000000 in
theorem hup_any (L : List En) (B p g n cap j : Nat) (hn : n ≤ 4097) (hl : L.length = n) (hj : j < n) (hu : Up L j) (w : World) (hq : Qk w B p (.slice (some ⟨g, 0, none⟩) n cap) L) : Calls Try.prog 58 #[.iface 93 (.pointer (some ⟨p, 0, none⟩)), .int .i64 (j : Int)] w fun e w' => e = .returned (.tuple #[]) ∧ ∃ L', L'.Perm L ∧ Hp L' L'.length ∧ Qk w' B p (.slice (some ⟨g, 0, none⟩) n cap) L' ∧ Fr (fun k => k = g) w w' := by
  have HQ := hid hq
  have HU := hid hu
  have hpg : p ≠ g := fun e => hq.apart (by rw [e]; rfl)
  clear hq hu
  go_enter Try.func58, Try.ntmps58
  go_wp2_with fail
  go_loopw [1] (fun u wr => ∃ (k : Nat) (M : List En), k < n ∧ u = .int .i64 (k : Int) ∧ Hid (M.Perm L ∧ Up M k ∧ Qk wr B p (.slice (some ⟨g, 0, none⟩) n cap) M ∧ Fr (fun k => k = g) w wr)) (fun u _ => (intOf u).toNat)
  case atStart => exact ⟨j, L, hj, rfl, hid ⟨List.Perm.refl _, HU.out, HQ.out, Fr.refl _ _⟩⟩
  case round =>
    obtain ⟨k, M, hk, rfl, HM⟩ := hrel
    have hMl : M.length = n := by rw [HM.out.1.length_eq]; exact hl
    cases k with
    | zero =>
      have HD := hid (HM.out.2.1.done (.inl rfl))
      go_wp2_with fail
      go_end0
      exact ⟨rfl, M, HM.out.1, HD.out, HM.out.2.2⟩
    | succ m =>
      have c0 := HM.out.2.2.1.cell.1
      have hm := m_less c0
      have hr := HM.out.2.2.1.ow.rdE hMl (by omega)
      have HC := hid (qless_any M g 0 n cap (m + 1) (m / 2) hk (by omega) wr hr)
      have e1 : ((m + 1 : Nat) : Int) = (m : Int) + 1 := by omega
      have e2 : ((m / 2 : Nat) : Int) = (m : Int) / 2 := by omega
      have hb : ((m : Int) / 2 == (m : Int) + 1) = false := by simp; omega
      rw [e1, e2] at HC
      clear hr
      go_wp2_with fail
      refine HC.out.mono ?_
      rintro e w2 ⟨he, h2⟩
      rw [he]
      clear he HC hm c0
      by_cases hlt : kc (att M (m + 1)) (att M (m / 2)) < 0
      · have hdt : decide (kc (att M (m + 1)) (att M (m / 2)) < 0) = true := decide_eq_true hlt
        rw [hdt]
        have hq2 := HM.out.2.2.1.still h2
        have c0 := hq2.cell.1
        have hm := m_swap c0
        have HC := hid (qswap_any M B g n cap (m / 2) (m + 1) (by omega) hk w2 hq2.ow hMl)
        rw [e1, e2] at HC
        have HU2 := hid (show Up (sw M (m / 2) (m + 1)) (m / 2) from HM.out.2.1.step (by omega) (by omega) hlt)
        have HP2 := hid ((perm_sw M (m / 2) (m + 1) (by omega) (by omega)).trans HM.out.1)
        have HQ2 := hid hq2
        have HF2 := hid (Fr.trans HM.out.2.2.2 h2 (fun _ _ e => e.elim))
        clear hq2 hdt h2 hlt
        go_wp2_with fail
        refine HC.out.mono ?_
        rintro e w3 ⟨he, ho3, hf3⟩
        rw [he]
        have HM3 : Hid ((sw M (m / 2) (m + 1)).Perm L ∧ Up (sw M (m / 2) (m + 1)) (m / 2) ∧ Qk w3 B p (.slice (some ⟨g, 0, none⟩) n cap) (sw M (m / 2) (m + 1)) ∧ Fr (fun k => k = g) w w3) := hid ⟨HP2.out, HU2.out, ⟨hf3.kept HQ2.out.bk hpg, ho3, HQ2.out.lo⟩, Fr.trans HF2.out hf3 (fun _ _ e => e)⟩
        clear he HC hm c0 ho3 hf3 HQ2 HP2 HU2 HF2 HM
        go_wp2_with fail
        go_roundw
        case rel => exact ⟨m / 2, _, by omega, by rw [e2], HM3⟩
        case measure => simp [intOf]; omega
      · have hdt : decide (kc (att M (m + 1)) (att M (m / 2)) < 0) = false := decide_eq_false hlt
        rw [hdt]
        have HD := hid (HM.out.2.1.done (.inr hlt))
        have HQ2 := hid (HM.out.2.2.1.still h2)
        have HF2 := hid (Fr.trans HM.out.2.2.2 h2 (fun _ _ e => e.elim))
        clear hdt h2 hlt
        go_wp2_with fail
        go_end0
        exact ⟨rfl, M, HM.out.1, HD.out, HQ2.out, HF2.out⟩
end Go.Proofs.Ytdmgalaajgebkaa
