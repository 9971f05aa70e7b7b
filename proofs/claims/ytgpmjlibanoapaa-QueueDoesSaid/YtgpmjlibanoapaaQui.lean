/- The library's heap: Push, Pop. -/
import Derived.Test.YtgpmjlibanoapaaQuh
namespace Go.Proofs.Ytgpmjlibanoapaa
open Go.RowKit
set_option maxRecDepth 100000

theorem att_app {L : List En} {x : En} {k : Nat} (hk : k < L.length) : att (L ++ [x]) k = att L k := by
  unfold att; rw [List.getD_eq_getElem?_getD, List.getD_eq_getElem?_getD, List.getElem?_append_left hk]
theorem att_last (L : List En) (x : En) : att (L ++ [x]) L.length = x := by simp [att, List.getD_eq_getElem?_getD]
set_option maxHeartbeats 2000000 in
theorem hpush_any (x : En) (L : List En) (B p : Nat) (v : Value) (hl : L.length ≤ 4096) (hh : Hp L L.length) (w : World) (hB : B ≤ w.heap.size) (hq : Qk w B p v L) : Calls Try.prog 28 #[.iface 63 (.pointer (some ⟨p, 0, none⟩)), .iface 38 (ev x)] w fun e w' => e = .returned (.tuple #[]) ∧ ∃ v' L', L'.Perm (L ++ [x]) ∧ Hp L' L'.length ∧ Qk w' B p v' L' ∧ Fr (fun k => k = p ∨ v.ownBlock = some k) w w' ∧ ∀ k, v'.ownBlock = some k → v.ownBlock = some k ∨ w.heap.size ≤ k := by
  have HC := hid (qpush_any x B p v L hl w hq hB)
  have hm := fun w => m_push (p := p) (w := w)
  have HH := hid hh
  clear hh hq
  go_enter Try.func28, Try.ntmps28
  go_wp2_with fail
  refine HC.out.mono ?_
  rintro e w1 ⟨he, v1, hq1, hf1, hb1⟩
  rw [he]
  clear he HC hm
  obtain ⟨g, cap, rfl, _, _⟩ := hq1.ow.head (by simp)
  have c0 := hq1.cell.1
  have hm := m_len c0
  have HL := hid (fun w => qlen_any (some ⟨g, 0, none⟩) (L ++ [x]).length cap w)
  have HC := hid (hup_any (L ++ [x]) B p g (L ++ [x]).length cap L.length (by simp; omega) rfl (by simp) (Up.app x HH.out) w1 hq1)
  have eN : (L ++ [x]).length = L.length + 1 := by simp
  have HF1 := hid hf1
  have HB1 := hid hb1
  rw [eN] at c0 hm HL HC HB1
  clear hq1 hf1 hb1 eN
  obtain ⟨N, eN⟩ : ∃ N, L.length = N := ⟨_, rfl⟩
  have HN := hid eN
  rw [eN] at c0 hm HL HC HB1 hl
  clear eN
  go_wp2_with fail
  refine (HL.out _).mono ?_
  rintro e w2 ⟨he, hw⟩
  rw [he, hw]
  clear he hw w2 HL hm c0
  have e1 : ((N + 1 : Nat) : Int) - 1 = (N : Int) := by omega
  go_wp2_with fail
  refine HC.out.mono ?_
  rintro e w3 ⟨he, L3, hp3, hh3, hq3, hf3⟩
  rw [he]
  have HF3 : Hid (Fr (fun k => k = p ∨ v.ownBlock = some k) w w3) := hid (Fr.trans HF1.out hf3 (fun k hk e => by
    rcases HB1.out k (by rw [e]; rfl) with h | h
    · exact .inr h
    · omega))
  have HR := hid (And.intro hp3 (And.intro hh3 hq3))
  clear he HC hp3 hh3 hq3 hf3
  go_wp2_with fail
  go_end0
  exact ⟨rfl, _, L3, HR.out.1, HR.out.2.1, HR.out.2.2, HF3.out, HB1.out⟩
set_option maxHeartbeats 2000000 in
theorem hpop_any (L : List En) (B p : Nat) (v : Value) (hl : L.length ≤ 4097) (h0 : 0 < L.length) (hh : Hp L L.length) (w : World) (hq : Qk w B p v L) : Calls Try.prog 29 #[.iface 63 (.pointer (some ⟨p, 0, none⟩))] w fun e w' => e = .returned (.iface 38 (ev (att L 0))) ∧ ∃ v' L', L.Perm (att L 0 :: L') ∧ Hp L' L'.length ∧ Qk w' B p v' L' ∧ Fr (fun k => k = p ∨ v.ownBlock = some k) w w' ∧ v'.ownBlock = v.ownBlock := by
  obtain ⟨g, cap, rfl, _, _⟩ := hq.ow.head h0
  obtain ⟨N, eN⟩ : ∃ N, L.length = N + 1 := ⟨L.length - 1, by omega⟩
  have hpg : p ≠ g := fun e => hq.apart (by rw [e]; rfl)
  have HN := hid eN
  rw [eN] at hq hl ⊢
  have c0 := hq.cell.1
  have hm := m_len c0
  have hm2 := m_swap c0
  have HL := hid (fun w => qlen_any (some ⟨g, 0, none⟩) (N + 1) cap w)
  have HC := hid (qswap_any L B g (N + 1) cap 0 N (by omega) (by omega) w hq.ow eN)
  have HD := hid (Dw.start hh N eN.symm)
  have HQ := hid hq
  have e1 : ((N + 1 : Nat) : Int) - 1 = (N : Int) := by omega
  clear hq hh eN h0
  go_enter Try.func29, Try.ntmps29
  go_wp2_with fail
  refine (HL.out _).mono ?_
  rintro e w2 ⟨he, hw⟩
  rw [he, hw]
  clear he hw w2 HL hm
  go_wp2_with fail
  refine HC.out.mono ?_
  rintro e w2 ⟨he, ho2, hf2⟩
  rw [he]
  clear he HC hm2 c0
  have hq2 : Qk w2 B p (.slice (some ⟨g, 0, none⟩) (N + 1) cap) (sw L 0 N) := ⟨hf2.kept HQ.out.bk hpg, ho2, HQ.out.lo⟩
  have HC := hid (hdown_any (sw L 0 N) B p g (N + 1) N cap (by omega) (by rw [len_sw]; exact HN.out) (by omega) HD.out w2 hq2)
  have HF2 := hid hf2
  clear hf2 ho2 hq2 HD
  go_wp2_with fail
  refine HC.out.mono ?_
  rintro e w3 ⟨⟨b, he⟩, L3, hp3, hh3, ha3, hq3, hf3⟩
  rw [he]
  clear he HC
  have hl3 : L3.length = N + 1 := by rw [hp3.length_eq, len_sw]; exact HN.out
  obtain ⟨M, y, rfl⟩ : ∃ M y, L3 = M ++ [y] := by
    rcases List.eq_nil_or_concat L3 with e | ⟨M, y, e⟩
    · rw [e] at hl3; simp at hl3
    · exact ⟨M, y, by simpa using e⟩
  have hM : M.length = N := by simpa using hl3
  have hy : y = att L 0 := by
    have := ha3 N (Nat.le_refl _)
    rw [att_sw L 0 N N (by have := HN.out; omega) (by have := HN.out; omega), if_pos rfl, ← hM, att_last] at this
    exact this
  subst hy
  have hm := fun w => m_pop (p := p) (w := w)
  have HC := hid (qpop_any (att L 0) B p _ M (by omega) w3 hq3)
  have HP3 : Hid (L.Perm (att L 0 :: M)) := hid (((perm_sw L 0 N (by have := HN.out; omega) (by have := HN.out; omega)).symm.trans hp3.symm).trans (List.perm_append_comm (l₁ := M) (l₂ := [att L 0])))
  have HH3 : Hid (Hp M M.length) := hid (by
    rw [hM]
    exact hh3.upto (fun k hk => (att_app (by omega)).symm))
  have HF3 := hid (Fr.trans HF2.out hf3 (fun _ _ e => e))
  clear hp3 hh3 ha3 hq3 hf3 hl3 HF2
  go_wp2_with fail
  refine HC.out.mono ?_
  rintro e w4 ⟨he, v4, hq4, hf4, hb4⟩
  rw [he]
  have HR := hid (And.intro hq4 hb4)
  have HF4 : Hid (Fr (fun k => k = p ∨ (Value.slice (some ⟨g, 0, none⟩) (N + 1) cap).ownBlock = some k) w w4) := hid (Fr.trans (HF3.out.mono (fun k _ e => .inr (by rw [e]; rfl))) hf4 (fun k _ e => .inl e))
  clear he HC hq4 hf4 hb4 HF3 hm
  go_wp2_with fail
  go_ret
  exact ⟨rfl, v4, M, HP3.out, HH3.out, HR.out.1, HF4.out, HR.out.2⟩
end Go.Proofs.Ytgpmjlibanoapaa
