/- The program's forget, Purge. -/
import Derived.Test.YtdmgalaajgebkaaMgi
import Derived.Lib.SliceRun
namespace Go.Proofs.Ytdmgalaajgebkaa
open Go.RowKit
set_option maxRecDepth 100000

theorem ring_cut (w : World) (p i : Nat) (hi : i < 112) : (Instr.sliceAt 73 (.pointer (some ⟨p, 3, none⟩)) (some (.int .i64 (i : Int))) (some (.int .i64 ((i : Int) + 1))) none).run Try.prog w = .ok (.slice (some ⟨p, 3 + i, none⟩) 1 (112 - i)) w := by
  have hal : Try.prog.arrayLen 73 = 112 := by kernel_rfl
  have hel : Try.prog.elem 73 = 40 := by kernel_rfl
  have hu : Try.prog.underlying 73 = some (.array (Try.prog.arrayLen 73) (Try.prog.elem 73)) := by kernel_rfl
  rw [run_sliceAt_array_lh w 73 ⟨p, 3, none⟩ hu .i64 .i64 (i : Int) ((i : Int) + 1) (by omega) (by omega) (by rw [hal]; omega), hel, hal]
  have hs : (sizeOf 40).run Try.prog w = .ok 1 w := by kernel_rfl
  rw [hs]
  have h1 : ((i : Int) + 1).toNat = i + 1 := by omega
  simp only [Result.andThen_ok, Int.toNat_natCast, h1]
  unfold slicedAt
  simp [add_plain]
  omega
theorem ring_clear (w : World) (ty : TypeId) (p i c : Nat) (cs : Array Value) (hb : w.heap[p]? = some (.cells cs lgT (0, 0))) (hi : 3 + i < cs.size) : (Builtin.clear_ #[87] ty #[.slice (some ⟨p, 3 + i, none⟩) 1 c]).run Try.prog w = .ok (.tuple #[]) (w.setCell ⟨p, 3 + i, none⟩ (.slice none 0 0)) := by
  have := Lib.run_clear_slice (P := Try.prog) w 87 40 ty (.slice none 0 0) (by kernel_rfl) (fun w => by kernel_rfl) (by kernel_rfl) rfl p (3 + i) 1 c (by omega) (fun j hj => by
    obtain rfl : j = 0 := by omega
    rw [Nat.add_zero, cell_of_row _ _ _ _ _ _ hb, Array.getElem?_eq_getElem hi]
    rfl) (fun j hj => frozen_of_row w p _ _ _ hb)
  exact this
theorem cm_forget (s : Lgs) (p : Nat) (vs : Nat → Value) (f : Int) (i n cap : Nat) (ao : Option Addr) (hf : 0 ≤ f ∧ f ≤ 9223372036854775807) (hi : f % 112 = (i : Int)) (hv : vs i = .slice ao n cap) (w : World) (hb : w.heap[p]? = some (.cells (lcs s vs) lgT (0, 0))) : Calls Try.prog 45 #[.pointer (some ⟨p, 3, none⟩), .int .i64 f] w fun e w' => e = .returned (.int .i64 (n : Int)) ∧ w' = w.setCell ⟨p, 3 + i, none⟩ (.slice none 0 0) := by
  have hil : i < 112 := by omega
  have H := hid (fun w => cm_place f hf w)
  rw [hi] at H
  have c0 : w.cell? ⟨p, 3 + i, none⟩ = some (.slice ao n cap) := by rw [cell_of_row _ _ _ _ _ _ hb, lcs_at _ _ hil, hv]
  have h1 : (0 : Int) ≤ (i : Int) := by omega
  have h2 : (i : Int) < 112 := by omega
  have hcut := fun w => ring_cut w p i hil
  have hclr := fun ty => ring_clear w ty p i (112 - i) (lcs s vs) hb (by rw [lcs_size]; omega)
  clear hi hf hv hb
  go_enter Try.func45, Try.ntmps45
  go_wp2_with fail
  refine (H.out _).mono ?_
  rintro e w2 ⟨he, hw⟩
  rw [he, hw]
  clear he hw w2 H
  go_wp2_with fail
  go_ret
  exact ⟨rfl, rfl⟩
/-- how far behind the base a place's frame lies -/
def offI (b : Int) (i : Nat) : Int := ((i : Int) - (b + 1)) % 112
def purV (b : Int) (j : Nat) (vs : Nat → Value) : Nat → Value := fun i => if offI b i < (j : Int) then .slice none 0 0 else vs i
theorem purV_zero (b : Int) (vs : Nat → Value) : purV b 0 vs = vs := by
  funext i
  unfold purV offI
  rw [if_neg (by omega)]
theorem purV_next (b : Int) (vs : Nat → Value) {j i : Nat} (hj : j < 112) (hi : (b + 1 + (j : Int)) % 112 = (i : Int)) : ∀ t, t < 112 → upV (purV b j vs) i (.slice none 0 0) t = purV b (j + 1) vs t := by
  intro t ht
  unfold upV purV offI
  by_cases e : t = i
  · subst e
    rw [if_pos rfl, if_pos (by omega)]
  · rw [if_neg e]
    by_cases h : ((t : Int) - (b + 1)) % 112 < (j : Int)
    · rw [if_pos h, if_pos (by omega)]
    · rw [if_neg h, if_neg (by omega)]
theorem lcs_congr (s : Lgs) {vs vs' : Nat → Value} (h : ∀ t, t < 112 → vs t = vs' t) : lcs s vs = lcs s vs' := by
  unfold lcs
  congr 4
  exact List.map_congr_left (fun t ht => h t (List.mem_range.1 ht))
theorem purV_at (b : Int) (vs : Nat → Value) {j i : Nat} (hj : j < 112) (hi : (b + 1 + (j : Int)) % 112 = (i : Int)) : purV b j vs i = vs i := by
  unfold purV offI
  rw [if_neg (by omega)]
/-- what is left behind a purge -/
def puS (f : Int) (S : List En) : List En := S.filter fun x => decide (f < x.fr)
def puN (f : Int) (S : List En) : Nat := S.countP fun x => decide (x.fr ≤ f)
def puB (s : Lgs) (f : Int) : Bool := decide (s.ba < f ∧ f ≤ 1099511627776)
def puA (s : Lgs) (f : Int) : Lgs := if puB s f then ⟨s.np, s.nr, f, puS f s.S⟩ else s
def puR (s : Lgs) (f : Int) : Nat := if puB s f then puN f s.S else 0
theorem lo_pur {s : Lgs} (h : Lo s) {f : Int} (hf : s.ba < f ∧ f ≤ 1099511627776) : Lo ⟨s.np, s.nr, f, puS f s.S⟩ := by
  have hb := h.b
  refine ⟨h.p, h.r, ⟨?_, hf.2⟩, List.Pairwise.sublist List.filter_sublist h.srt, fun x hx => ?_, fun x hx => h.pe x (List.mem_filter.1 hx).1, fun x hx => h.ms x (List.mem_filter.1 hx).1, fun f' p => ?_⟩
  · show 0 ≤ f; omega
  · have h1 := List.mem_filter.1 hx
    have h2 := h.fr x h1.1
    have h3 : f < x.fr := of_decide_eq_true h1.2
    show f < x.fr ∧ x.fr ≤ f + 112
    omega
  · exact Nat.le_trans (List.Sublist.countP_le List.filter_sublist) (h.few f' p)
theorem plc_pur {s : Lgs} (h : Lo s) {f : Int} (hf : s.ba < f) {j : Nat} (hj : j ≤ 112) (hjf : s.ba + (j : Int) = f ∨ (j = 112 ∧ s.ba + 112 ≤ f)) {i : Nat} : plc i (puS f s.S) = if offI s.ba i < (j : Int) then [] else plc i s.S := by
  have hb := h.b
  unfold plc puS offI
  rw [List.filter_filter]
  by_cases h1 : ((i : Int) - (s.ba + 1)) % 112 < (j : Int)
  · rw [if_pos h1, List.filter_eq_nil_iff]
    intro x hx
    have := h.fr x hx
    simp only [Bool.and_eq_true, decide_eq_true_eq]
    omega
  · rw [if_neg h1]
    apply List.filter_congr
    intro x hx
    have := h.fr x hx
    rw [← Bool.decide_and]
    exact decide_eq_decide.2 (by omega)
theorem puN_low {s : Lgs} (h : Lo s) {f : Int} {j : Nat} (hjf : s.ba + (j : Int) = f ∨ (j = 112 ∧ s.ba + 112 ≤ f)) : lowN (s.ba + 1 + (j : Int)) s.S = puN f s.S := by
  unfold lowN puN
  apply List.countP_congr
  intro x hx
  have := h.fr x hx
  simp only [decide_eq_true_eq]
  omega
theorem Lm.pur {w w' : World} {B p : Nat} {s : Lgs} {vs : Nat → Value} (h : Lm w B p s vs) {f : Int} (hf : s.ba < f ∧ f ≤ 1099511627776) {j : Nat} (hj : j ≤ 112) (hjf : s.ba + (j : Int) = f ∨ (j = 112 ∧ s.ba + 112 ≤ f)) (hb : w'.heap[p]? = some (.cells (lcs ⟨s.np, s.nr, f, puS f s.S⟩ (purV s.ba j vs)) lgT (0, 0))) (hfr : Fr (fun k => k = p) w w') : Lm w' B p ⟨s.np, s.nr, f, puS f s.S⟩ (purV s.ba j vs) ∧ ∀ k, Rw (purV s.ba j vs) k → Rw vs k := by
  have hsub : ∀ i k, (purV s.ba j vs i).ownBlock = some k → (vs i).ownBlock = some k := fun i k e => by
    unfold purV at e
    split at e
    · cases e
    · exact e
  refine ⟨⟨hb, h.lo, fun i hi => ?_, fun i i' hi hi' hne k e1 e2 => h.sp i i' hi hi' hne k (hsub i k e1) (hsub i' k e2), lo_pur h.ok hf⟩, fun k ⟨i, hi, e⟩ => ⟨i, hi, hsub i k e⟩⟩
  show OwG KE enT w' B (purV s.ba j vs i) (plc i (puS f s.S))
  rw [plc_pur h.ok hf.1 hj hjf]
  unfold purV
  split
  · exact OwG.nil _ _
  · exact (h.ow i hi).keep hfr (fun k hk e => by subst hk; exact h.pne ⟨i, hi, e⟩)
set_option maxHeartbeats 2000000 in
theorem cm_purge_yes (s : Lgs) (B p : Nat) (vs : Nat → Value) (f : Int) (hf : s.ba < f ∧ f ≤ 1099511627776) (w : World) (h : Lm w B p s vs) : Calls Try.prog 32 #[.pointer (some ⟨p, 0, none⟩), .int .i64 f] w fun e w' => e = .returned (.int .i64 (puN f s.S : Int)) ∧ (∃ vs', Lm w' B p ⟨s.np, s.nr, f, puS f s.S⟩ vs' ∧ ∀ k, Rw vs' k → Rw vs k) ∧ Fr (fun k => k = p) w w' := by
  obtain ⟨_, _, c0, _⟩ := h.cell
  have HL := hid h
  have hb := h.ok.b
  obtain ⟨J, hJ, hJf⟩ : ∃ J : Nat, J ≤ 112 ∧ (s.ba + (J : Int) = f ∨ (J = 112 ∧ s.ba + 112 ≤ f)) := by
    by_cases h1 : f ≤ s.ba + 112
    · exact ⟨(f - s.ba).toNat, by omega, .inl (by omega)⟩
    · exact ⟨112, Nat.le_refl _, .inr ⟨rfl, by omega⟩⟩
  have hmin : min f (s.ba + 112) = s.ba + (J : Int) := by omega
  have HPur := hid (fun w' hb' hfr' => h.pur (w' := w') hf hJ hJf hb' hfr')
  have HN := hid (puN_low h.ok hJf)
  have HLast := hid (fun W vs' h' => cm_last0 s p vs' hb W h')
  have HLow : Hid (∀ m, lowN m s.S ≤ 2016) := hid (fun m => Nat.le_trans (lowN_le m s.S) (len_2016 h.ok))
  have HBk := hid h.bk
  have HF0 := hid (lowN_first h.ok)
  have HRow := hid (fun (j : Nat) (hj : j < 112) => h.row (f := s.ba + 1 + (j : Int)) (by omega))
  obtain ⟨b, eb⟩ : ∃ b, s.ba = b := ⟨_, rfl⟩
  have HEb := hid eb
  rw [eb] at c0 hb hmin hf HLast HRow HF0 HN
  rw [eb] at HPur
  have d1 : ¬ f ≤ b := by omega
  have d2 : ¬ f > 1099511627776 := by omega
  have hw1 : IntKind.i64.wrap (b + 1) = b + 1 := by rw [IntKind.wrap_i64]; omega
  have HJf := hid hJf
  clear h eb hJf hf
  go_enter Try.func32, Try.ntmps32
  go_wp2_with fail
  clear c0 hw1
  go_loopw [6, 5] (fun u v wr => ∃ j : Nat, j ≤ J ∧ u = .int .i64 (b + 1 + (j : Int)) ∧ v = .int .i64 ((lowN (b + 1 + (j : Int)) s.S : Nat) : Int) ∧ Hid (wr.heap[p]? = some (.cells (lcs s (purV b j vs)) lgT (0, 0)) ∧ Fr (fun k => k = p) w wr)) (fun u _ _ => (b + 114 - intOf u).toNat)
  case atStart => exact ⟨0, by omega, by simp, by simp [HF0.out], hid ⟨by rw [purV_zero]; exact HBk.out, Fr.refl _ _⟩⟩
  case round =>
    obtain ⟨j, hj, rfl, rfl, HK⟩ := hrel
    have HC := hid (HLast.out wr _ HK.out.1)
    by_cases hjn : j < J
    · obtain ⟨i, ao, cap, hi, hfi, hv, ho, _⟩ := HRow.out j (by omega)
      have HFg := hid (cm_forget s p (purV b j vs) (b + 1 + (j : Int)) i _ cap ao (by omega) hfi (by rw [purV_at b vs (by omega) hfi]; exact hv) wr HK.out.1)
      have HNx := hid (lowN_next (b + 1 + (j : Int)) s.S)
      have HL1 := hid (HLow.out (b + 1 + (j : Int) + 1))
      have HBk2 : Hid ((wr.setCell ⟨p, 3 + i, none⟩ (.slice none 0 0)).heap[p]? = some (.cells (lcs s (purV b (j + 1) vs)) lgT (0, 0)) ∧ Fr (fun k => k = p) w (wr.setCell ⟨p, 3 + i, none⟩ (.slice none 0 0))) := hid ⟨by
        rw [heap_setCell_same wr p (3 + i) _ _ _ HK.out.1, lcs_set _ _ hi, lcs_congr s (purV_next b vs (by omega) hfi)], HK.out.2.setCell _ _ (.inl rfl)⟩
      obtain ⟨n, en⟩ : ∃ n, (onF (b + 1 + (j : Int)) s.S).length = n := ⟨_, rfl⟩
      obtain ⟨g, eg⟩ : ∃ g, b + 1 + (j : Int) = g := ⟨_, rfl⟩
      rw [en] at HFg HNx
      rw [eg] at HFg HNx HL1 ⊢
      obtain ⟨m, em⟩ : ∃ m, lowN g s.S = m := ⟨_, rfl⟩
      obtain ⟨m2, em2⟩ : ∃ m, lowN (g + 1) s.S = m := ⟨_, rfl⟩
      rw [em2, em] at HNx
      rw [em2] at HL1
      rw [em]
      obtain ⟨y, ey⟩ : ∃ y, b + 112 = y := ⟨_, rfl⟩
      obtain ⟨z, ez⟩ : ∃ z, b + (J : Int) = z := ⟨_, rfl⟩
      rw [ey] at HC hmin
      rw [ez] at hmin
      have hgz : g ≤ z := by omega
      have HG : Hid (b + 1 + ((j + 1 : Nat) : Int) = g + 1) := hid (by omega)
      have HM2 := hid em2
      have HMs : Hid ((b + 114 - (g + 1)).toNat < (b + 114 - g).toNat) := hid (by omega)
      have hw1 : IntKind.i64.wrap (g + 1) = g + 1 := by rw [IntKind.wrap_i64]; omega
      have hw2 : IntKind.i64.wrap ((m : Int) + (n : Int)) = ((m2 : Nat) : Int) := by rw [IntKind.wrap_i64]; have := HNx.out; have := HL1.out; omega
      have HJ2 : Hid (j + 1 ≤ J) := hid (by omega)
      clear ez ey eg en em em2 hv ho hfi hjn HK hj hJ
      go_wp2_with fail
      refine HC.out.mono ?_
      rintro e w2 ⟨he, hw⟩
      rw [he, hw]
      clear he hw w2 HC
      go_wp2_with fail
      refine HFg.out.mono ?_
      rintro e w2 ⟨he, hw⟩
      rw [he, hw]
      clear he hw w2 HFg
      go_wp2_with fail
      go_roundw
      case rel => exact ⟨j + 1, HJ2.out, by rw [HG.out], by rw [HG.out, HM2.out], HBk2⟩
      case measure => simp only [intOf]; exact HMs.out
    · obtain rfl : j = J := by omega
      obtain ⟨y, ey⟩ : ∃ y, b + 112 = y := ⟨_, rfl⟩
      obtain ⟨z, ez⟩ : ∃ z, b + (j : Int) = z := ⟨_, rfl⟩
      rw [ey] at HC hmin
      rw [ez] at hmin
      obtain ⟨g, eg⟩ : ∃ g, b + 1 + (j : Int) = g := ⟨_, rfl⟩
      have HM := HN
      rw [eg] at HM ⊢
      have hgz : ¬ g ≤ z := by omega
      obtain ⟨m, em⟩ : ∃ m, lowN g s.S = m := ⟨_, rfl⟩
      rw [em] at HM ⊢
      have fz : ∀ o, wr.frozen? ⟨p, o, none⟩ = false := fun o => frozen_of_row wr p o _ _ HK.out.1
      have c2 : wr.cell? ⟨p, 2, none⟩ = some (.int .i64 b) := by rw [cell_of_row _ _ _ _ _ _ HK.out.1, lcs_2, HEb.out]
      have HFin : Hid ((wr.setCell ⟨p, 2, none⟩ (.int .i64 f)).heap[p]? = some (.cells (lcs ⟨s.np, s.nr, f, puS f s.S⟩ (purV b j vs)) lgT (0, 0)) ∧ Fr (fun k => k = p) w (wr.setCell ⟨p, 2, none⟩ (.int .i64 f))) := hid ⟨by
        rw [heap_setCell_same wr p 2 _ _ _ HK.out.1, lcs_setb]; rfl, HK.out.2.setCell _ _ (.inl rfl)⟩
      clear ez ey eg em hjn HK hj hJ
      go_wp2_with fail
      refine HC.out.mono ?_
      rintro e w2 ⟨he, hw⟩
      rw [he, hw]
      clear he hw w2 HC
      go_wp2_with fail
      go_ret
      exact ⟨by rw [← HM.out]; rfl, ⟨_, HPur.out _ HFin.out.1 HFin.out.2⟩, HFin.out.2⟩
theorem cm_purge_no (s : Lgs) (B p : Nat) (vs : Nat → Value) (f : Int) (hf : ¬ (s.ba < f ∧ f ≤ 1099511627776)) (w : World) (h : Lm w B p s vs) : Calls Try.prog 32 #[.pointer (some ⟨p, 0, none⟩), .int .i64 f] w fun e w' => e = .returned (.int .i64 0) ∧ w' = w := by
  obtain ⟨_, _, c0, _⟩ := h.cell
  obtain ⟨b, eb⟩ : ∃ b, s.ba = b := ⟨_, rfl⟩
  rw [eb] at c0 hf
  clear h eb
  by_cases h1 : f ≤ b
  · clear hf
    go_enter Try.func32, Try.ntmps32
    go_wp2_with fail
    go_ret
    exact ⟨rfl, rfl⟩
  · have h2 : f > 1099511627776 := by omega
    clear hf
    go_enter Try.func32, Try.ntmps32
    go_wp2_with fail
    go_ret
    exact ⟨rfl, rfl⟩
theorem cm_purge (s : Lgs) (B p : Nat) (vs : Nat → Value) (f : Int) (w : World) (h : Lm w B p s vs) : Calls Try.prog 32 #[.pointer (some ⟨p, 0, none⟩), .int .i64 f] w fun e w' => e = .returned (.int .i64 (puR s f : Int)) ∧ (∃ vs', Lm w' B p (puA s f) vs' ∧ ∀ k, Rw vs' k → Rw vs k) ∧ Fr (fun k => k = p) w w' := by
  unfold puA puR
  cases hb : puB s f with
  | true => exact cm_purge_yes s B p vs f (of_decide_eq_true hb) w h
  | false =>
    refine (cm_purge_no s B p vs f (of_decide_eq_false hb) w h).mono ?_
    rintro e w' ⟨rfl, hw⟩
    subst hw
    exact ⟨rfl, ⟨vs, h, fun _ hk => hk⟩, Fr.refl _ _⟩
end Go.Proofs.Ytdmgalaajgebkaa
