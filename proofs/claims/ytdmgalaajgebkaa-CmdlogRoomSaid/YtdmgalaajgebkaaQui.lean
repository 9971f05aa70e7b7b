/- The library's heap: Push, Pop. -/
import Derived.Test.YtdmgalaajgebkaaQuh
namespace Go.Proofs.Ytdmgalaajgebkaa
open Go.RowKit
set_option maxRecDepth 100000

theorem att_app {L : List En} {x : En} {k : Nat} (hk : k < L.length) : att (L ++ [x]) k = att L k := by
  unfold att; rw [List.getD_eq_getElem?_getD, List.getD_eq_getElem?_getD, List.getElem?_append_left hk]
theorem att_last (L : List En) (x : En) : att (L ++ [x]) L.length = x := by simp [att, List.getD_eq_getElem?_getD]
set_option maxHeartbeats 2000000 in
theorem hpush_any (x : En) (L : List En) (B p : Nat) (v : Value) (hl : L.length ≤ 4096) (hh : Hp L L.length) (w : World) (hB : B ≤ w.heap.size) (hq : Qk w B p v L) : Calls Try.prog 52 #[.iface 93 (.pointer (some ⟨p, 0, none⟩)), .iface 44 (ev x)] w fun e w' => e = .returned (.tuple #[]) ∧ ∃ v' L', L'.Perm (L ++ [x]) ∧ Hp L' L'.length ∧ Qk w' B p v' L' ∧ Fr (fun k => k = p ∨ v.ownBlock = some k) w w' ∧ ∀ k, v'.ownBlock = some k → v.ownBlock = some k ∨ w.heap.size ≤ k := by
  have HC := hid (qpush_any x B p v L hl w hq hB)
  have hm := fun w => m_push (p := p) (w := w)
  have HH := hid hh
  clear hh hq
  go_enter Try.func52, Try.ntmps52
  go_wp2_with fail
  refine HC.out.mono ?_
  rintro e w1 ⟨he, v1, hq1, hf1, hb1⟩
  rw [he]
  clear he HC hm
  obtain ⟨g, cap, rfl, _, _⟩ := hq1.ow.head (by simp)
  have c0 := hq1.cell.1
  have hm := m_len c0
  have HL := hid (fun w => qlen_any (some ⟨g, 0, none⟩) (L ++ [x]).length cap w)
  have HC := hid (hup_any (L ++ [x]) B p g (L ++ [x]).length cap L.length (by simp; omega) rfl (by simp) (Up.app x HH.out) w1 hq1)
  have eN : (L ++ [x]).length = L.length + 1 := by simp
  have HF1 := hid hf1
  have HB1 := hid hb1
  rw [eN] at c0 hm HL HC HB1
  clear hq1 hf1 hb1 eN
  obtain ⟨N, eN⟩ : ∃ N, L.length = N := ⟨_, rfl⟩
  have HN := hid eN
  rw [eN] at c0 hm HL HC HB1 hl
  clear eN
  go_wp2_with fail
  refine (HL.out _).mono ?_
  rintro e w2 ⟨he, hw⟩
  rw [he, hw]
  clear he hw w2 HL hm c0
  have e1 : ((N + 1 : Nat) : Int) - 1 = (N : Int) := by omega
  go_wp2_with fail
  refine HC.out.mono ?_
  rintro e w3 ⟨he, L3, hp3, hh3, hq3, hf3⟩
  rw [he]
  have HF3 : Hid (Fr (fun k => k = p ∨ v.ownBlock = some k) w w3) := hid (Fr.trans HF1.out hf3 (fun k hk e => by
    rcases HB1.out k (by rw [e]; rfl) with h | h
    · exact .inr h
    · omega))
  have HR := hid (And.intro hp3 (And.intro hh3 hq3))
  clear he HC hp3 hh3 hq3 hf3
  go_wp2_with fail
  go_end0
  exact ⟨rfl, _, L3, HR.out.1, HR.out.2.1, HR.out.2.2, HF3.out, HB1.out⟩
end Go.Proofs.Ytdmgalaajgebkaa
