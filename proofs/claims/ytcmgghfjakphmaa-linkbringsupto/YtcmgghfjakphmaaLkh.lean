/- Counts in a map; the program's fresh, runsAhead. -/
import Derived.Test.YtcmgghfjakphmaaLkg
namespace Go.Proofs.Ytcmgghfjakphmaa
open Go.RowKit
open Wp Vp Lp
set_option maxRecDepth 100000
set_option linter.unusedVariables false
set_option linter.unusedSimpArgs false

theorem zeroI (w : World) : (zeroValue 3).run Try.prog w = .ok (.int .i64 0) w := by kernel_rfl
theorem own_look {w : World} {mb n : Nat} {D : DataW Value} {f v : Int} (h : w.ownsMap Try.prog 2 RI mb n D) (hf : -9223372036854775808 ≤ f ∧ f ≤ 9223372036854775807) (hv : D.atKey (.int .i64 f) (.held (.int .i64 0)) = .held (.int .i64 v)) : (Instr.lookup 55 (.map (some mb)) (.int .i64 f) false).run Try.prog w = .ok (.int .i64 v) w := by
  obtain ⟨u, ps, hrun, hu⟩ := h.lookup lawI6 Try.underlying55 (zeroI w) (zd := .held (.int .i64 0)) (zp := []) rfl (keyI6 hf)
  rw [hv] at hu
  injection hu with h1
  injection h1 with h2 _
  injection h2 with h3
  rw [hrun, h3]
theorem Cnt.put {D : DataW Value} {mk : Int} {G : List Cc} (h : Cnt D mk G) (hm : Maps.IsMap D) {c : Cc} (hk : WideAt.IsKeyLit (.int .i64 c.fr)) {v : Int} (hv : D.atKey (.int .i64 c.fr) (.held (.int .i64 0)) = .held (.int .i64 v)) : Cnt (D.put (.int .i64 c.fr) (.held (.int .i64 (v + 1)))) mk (G ++ [c]) := by
  intro f
  obtain ⟨n, h1, h2, h3, h4⟩ := h f
  by_cases e : f = c.fr
  · subst e
    rw [hv] at h1
    injection h1 with h1
    injection h1 with _ h1
    subst h1
    refine ⟨v + 1, Maps.atKey_put_same hm hk _ _, by omega, by simp; omega, fun e => ?_⟩
    rw [onN_snoc, if_pos rfl, h4 e]
    omega
  · refine ⟨n, ?_, h2, by simp; omega, fun e2 => ?_⟩
    · rw [Maps.atKey_put_other (fun e3 => e (by injection e3))]
      exact h1
    · rw [onN_snoc, if_neg (fun e3 => e e3.symm), h4 e2]
      omega
/-- behind 'm[frame]++' -/
theorem Mpc.put {w w' : World} {mb n : Nat} {mk : Int} {G : List Cc} {D : DataW Value} {c : Cc} {v : Int} (h : w.ownsMap Try.prog 2 RI mb n D) (hc : Cnt D mk G) (hf : -9223372036854775808 ≤ c.fr ∧ c.fr ≤ 9223372036854775807) (hv : D.atKey (.int .i64 c.fr) (.held (.int .i64 0)) = .held (.int .i64 v)) (h' : w'.ownsMap Try.prog 2 RI mb (n + 1) (D.put (.int .i64 c.fr) (.held (.int .i64 (v + 1))))) : Mpc w' mb (n + 1) mk (G ++ [c]) :=
  ⟨_, h', hc.put h.isMap (lawI6.key (keyI6 hf)) hv⟩
/-! fresh -/
def frI (s : Ln) (d : Dg) : Nat := min ((s.G.length : Int) + 1 - d.fi).toNat d.cs.length
theorem frs_frI (s : Ln) (d : Dg) : frs s d = d.cs.drop (frI s d) := by
  unfold frs frI
  by_cases h : ((s.G.length : Int) + 1 - d.fi).toNat ≤ d.cs.length
  · rw [Nat.min_eq_left h]
  · rw [Nat.min_eq_right (by omega), List.drop_of_length_le (Nat.le_refl _), List.drop_of_length_le (by omega)]
theorem frI_le (s : Ln) (d : Dg) : frI s d ≤ d.cs.length := Nat.min_le_right ..
/-- the commands of a datagram that are new, as the program cuts them -/
theorem SrG.fresh {w : World} {co : Option Addr} {cp : Nat} {d : Dg} (h : SrG KCc w co cp d.cs) (s : Ln) : SrG KCc w (cutG 7 co d.cs.length (frI s d)) (d.cs.length - frI s d) (frs s d) := by
  rw [frs_frI]
  exact (SrG.drop (K := KCc) (cap := d.cs.length) ⟨h.rd, Nat.le_refl _, fun e => by have := h.nl e; have := h.le; omega⟩ (frI_le s d))
set_option maxHeartbeats 1000000 in
theorem lfresh_any (p : Nat) (ko : Option Addr) (kc mb B : Nat) (s : Ln) (d : Dg) (co : Option Addr) (cn cp : Nat) (hn : d.cs.length = cn) (hg : s.G.length ≤ 1099511627776) (hfi : 0 ≤ d.fi ∧ d.fi ≤ (s.G.length : Int) + 1) (hcp : cn ≤ cp) (h48 : cn ≤ 281474976710656) (w : World) (h : Lkk w B p mb ko kc s) : Calls Try.prog 20 #[.pointer (some ⟨p, 0, none⟩), dgv d co cn cp] w fun e w' => e = .returned (.slice (cutG 7 co cn (frI s d)) (cn - frI s d) (cn - frI s d)) ∧ Still w w' := by
  have A0 := Still.alloc w (.cells (dgc d co cn cp) 51)
  have p0 := newDg_b w d co cn cp
  have c5 := (h.still A0).cells.2.2.2.2.2.1
  obtain ⟨g, eg⟩ : ∃ g, w.heap.size = g := ⟨_, rfl⟩
  unfold newDg at p0
  obtain ⟨W, eW⟩ : ∃ W, w.alloc (.cells (dgc d co cn cp) 51) = W := ⟨_, rfl⟩
  rw [eW] at A0 p0 c5
  rw [eg] at p0
  obtain ⟨d0, d1, d2, d3, d4, d5, d6, d7, df⟩ := p0.cells
  have HS := hid A0
  have HP := hid p0
  have HC := hid (fun W => lfrom_any co cn cp (frI s d) (by have := frI_le s d; omega) hcp W)
  have hw : IntKind.i64.wrap ((s.G.length : Int) + 1 - d.fi) = (s.G.length : Int) + 1 - d.fi := wr64 (by omega) (by omega)
  have hmn : min ((s.G.length : Int) + 1 - d.fi) (cn : Int) = (frI s d : Int) := by unfold frI; omega
  obtain ⟨i, ei⟩ : ∃ i, frI s d = i := ⟨_, rfl⟩
  rw [ei] at HC hmn ⊢
  have q5 := Cl.cell c5
  have r5 := Cl.cell d5
  have hne := Aft.here W
  clear ei A0 p0 h d0 d1 d2 d3 d4 d5 d6 d7 df c5
  go_enter Try.func20, Try.ntmps20
  go_wp2_with fail
  refine region_all (by kernel_rfl) (by kernel_rfl) ?_
  repeat (go_big_quiet_step (rfl))
  refine wpQuiet_nil ?_
  intro w3 h3
  have HS3 := hid (HS.out.trans h3)
  obtain ⟨d0, d1, d2, d3, d4, d5, d6, d7, df⟩ := (HP.out.still h3).cells
  clear h3 q5 r5 hne eW
  go_wp2_with fail
  refine (HC.out _).mono ?_
  rintro e w4 ⟨rfl, rfl⟩
  go_wp2_with fail
  go_ret
  exact ⟨rfl, HS3.out⟩
end Go.Proofs.Ytcmgghfjakphmaa
