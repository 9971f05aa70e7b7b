/- The program's Pop and Peek. -/
import Derived.Test.YtgpmjlibanoapaaQuk
namespace Go.Proofs.Ytgpmjlibanoapaa
open Go.RowKit
set_option maxRecDepth 100000

/-- what Pop does -/
def Pp (L M : List En) (x : En) (b : Bool) : Prop := Qu M ∧ ((L = [] ∧ M = [] ∧ x = zE ∧ b = false) ∨ (0 < L.length ∧ b = true ∧ x = att L 0 ∧ L.Perm (x :: M)))
theorem Qk.setE {w : World} {B p g : Nat} {v : Value} {L : List En} (h : Qk w B p v L) (hp : p ≠ g) (hv : v.ownBlock ≠ some g) (x : En) : Qk (setE w g x) B p v L :=
  h.keep (F := fun k => k = g) (setE_fr (Fr.refl _ w) g x (.inl rfl)) hp (fun k hk e => hv (by rw [← hk]; exact e))
theorem fun_un {L M : List En} {x : En} (hp : L.Perm (x :: M)) (h : Qu L) : Unl M := (List.pairwise_cons.1 (h.un.perm hp)).2
set_option maxHeartbeats 1000000 in
theorem qPop_nil (B p : Nat) (v : Value) (w : World) (hq : Qk w B p v []) : Calls Try.prog 15 #[.pointer (some ⟨p, 0, none⟩)] w fun e w' => e = .returned (.tuple #[ev zE, .bool false]) ∧ Still w w' := by
  obtain ⟨ao, cap, rfl⟩ := hq.own
  have A0 := Still.alloc w (.cells (ecs zE) 38)
  have hx0 := newE_eb w zE
  have hq0 := hq.still A0
  have c0 := hq0.cell.1
  obtain ⟨W, eW⟩ : ∃ W, newE w zE = W := ⟨_, rfl⟩
  have hx1 : Eb W w.heap.size zE := by rw [← eW]; exact hx0
  have HF1 : Hid (Still w (setE W w.heap.size zE)) := hid (setE_fr (by rw [← eW]; exact A0) w.heap.size zE (.inr (Nat.le_refl _)))
  have HX1 := hid (hx1.put zE)
  have c0 : W.cell? ⟨p, 0, none⟩ = some (.slice ao 0 cap) := by rw [← eW]; exact c0
  obtain ⟨d0, d1, d2, d3, d4, d5, d6, d7, df⟩ := hx1.cells
  simp only [newE, zE] at eW
  simp only [zE, setE] at HX1 HF1
  clear hq hq0 hx0 A0 hx1
  go_enter Try.func15, Try.ntmps15
  go_wp2_with fail
  refine bodyPost_ret (HX1.out.rest rfl _ _ rfl rfl) rfl ?_
  exact ⟨rfl, HF1.out⟩
set_option maxHeartbeats 1000000 in
theorem qPop_some (L : List En) (B p : Nat) (v : Value) (hL : Qu L) (h0 : 0 < L.length) (w : World) (hq : Qk w B p v L) : Calls Try.prog 15 #[.pointer (some ⟨p, 0, none⟩)] w fun e w' => e = .returned (.tuple #[ev (att L 0), .bool true]) ∧ ∃ v' M, L.Perm (att L 0 :: M) ∧ Qu M ∧ Qk w' B p v' M ∧ Fr (fun k => k = p ∨ v.ownBlock = some k) w w' ∧ v'.ownBlock = v.ownBlock := by
  obtain ⟨ao, cap, rfl⟩ := hq.own
  have A0 := Still.alloc w (.cells (ecs zE) 38)
  have hx0 := newE_eb w zE
  have hq0 := hq.still A0
  have c0 := hq0.cell.1
  obtain ⟨W, eW⟩ : ∃ W, newE w zE = W := ⟨_, rfl⟩
  have HX1 : Hid (Eb W w.heap.size zE) := hid (by rw [← eW]; exact hx0)
  have HQ1 : Hid (Qk W B p (.slice ao L.length cap) L) := hid (by rw [← eW]; exact hq0)
  have HS1 : Hid (Still w W) := hid (by rw [← eW]; exact A0)
  have HOB := hid (fun k e => (hq.ow.block (k := k) e).2)
  have hpl : p < w.heap.size := block_lt hq.bk
  have h4 := hL.le
  have HC := hid (hpop_any L B p _ (by omega) h0 hL.hp W HQ1.out)
  have c0 := HQ1.out.cell.1
  have HL := hid hL
  have hta := fun x w => ta_E x w
  have h0' : ((L.length : Int) == 0) = false := beq_eq_false_iff_ne.2 (by omega)
  simp only [newE, zE] at eW
  clear hq hq0 hx0 A0 hL
  go_enter Try.func15, Try.ntmps15
  go_wp2_with fail
  refine HC.out.mono ?_
  rintro e w2 ⟨he, v2, M, hp2, hh2, hq2, hf2, hb2⟩
  rw [he]
  clear he HC c0 eW
  have hx2 : Eb w2 w.heap.size zE := hf2.kept HX1.out (fun e => by
    rcases e with e | e
    · omega
    · have := HOB.out _ e; omega)
  obtain ⟨x, ex⟩ : ∃ x, att L 0 = x := ⟨_, rfl⟩
  have HEx := hid ex
  rw [ex] at hp2 ⊢
  clear ex
  have HM : Hid (Qu M) := hid ⟨hh2, fun_un hp2 HL.out, by have := hp2.length_eq; simp at this; omega⟩
  obtain ⟨d0, d1, d2, d3, d4, d5, d6, d7, df⟩ := hx2.cells
  have HX2 := hid (hx2.put x)
  have hv2 : v2.ownBlock ≠ some w.heap.size := fun e => by rw [hb2] at e; have := HOB.out _ e; omega
  have HQ2 := hid (hq2.setE (g := w.heap.size) (by omega) hv2 x)
  have HF2 : Hid (Fr (fun k => k = p ∨ (Value.slice ao L.length cap).ownBlock = some k) w (setE w2 w.heap.size x)) := hid (setE_fr (Fr.trans (Still.to HS1.out) hf2 (fun _ _ e => e)) _ _ (.inr (Nat.le_refl _)))
  have HP2 := hid hp2
  have HB2 := hid hb2
  clear hp2 hh2 hq2 hf2 hb2 hx2 hv2
  go_wp2_with fail
  refine bodyPost_ret (HX2.out.rest rfl _ _ rfl rfl) rfl ?_
  rw [HEx.out]
  exact ⟨rfl, v2, M, HP2.out, HM.out, HQ2.out, HF2.out, HB2.out⟩
set_option maxHeartbeats 1000000 in
theorem qPop_any (L : List En) (B p : Nat) (v : Value) (hL : Qu L) (w : World) (hq : Qk w B p v L) : Calls Try.prog 15 #[.pointer (some ⟨p, 0, none⟩)] w fun e w' => ∃ x b v' M, e = .returned (.tuple #[ev x, .bool b]) ∧ Pp L M x b ∧ Qk w' B p v' M ∧ Fr (fun k => k = p ∨ v.ownBlock = some k) w w' ∧ v'.ownBlock = v.ownBlock := by
  by_cases h0 : L = []
  · subst h0
    refine (qPop_nil B p v w hq).mono ?_
    rintro e w' ⟨he, hs⟩
    exact ⟨zE, false, v, [], he, ⟨Qu.nil, .inl ⟨rfl, rfl, rfl, rfl⟩⟩, hq.still hs, Still.to hs, rfl⟩
  · have h1 : 0 < L.length := List.length_pos_iff.2 h0
    refine (qPop_some L B p v hL h1 w hq).mono ?_
    rintro e w' ⟨he, v', M, h2, h3, h4⟩
    exact ⟨_, true, v', M, he, ⟨h3, .inr ⟨h1, rfl, rfl, h2⟩⟩, h4⟩
theorem qPeek_nil (B p : Nat) (v : Value) (w : World) (hq : Qk w B p v []) : Calls Try.prog 19 #[.pointer (some ⟨p, 0, none⟩)] w fun e w' => e = .returned (.tuple #[ev zE, .bool false]) ∧ Still w w' := by
  obtain ⟨ao, cap, rfl⟩ := hq.own
  have A0 := Still.alloc w (.cells (ecs zE) 38)
  have hx0 := newE_eb w zE
  have hq0 := hq.still A0
  have c0 := hq0.cell.1
  obtain ⟨W, eW⟩ : ∃ W, newE w zE = W := ⟨_, rfl⟩
  have hx1 : Eb W w.heap.size zE := by rw [← eW]; exact hx0
  have HF1 : Hid (Still w (setE W w.heap.size zE)) := hid (setE_fr (by rw [← eW]; exact A0) w.heap.size zE (.inr (Nat.le_refl _)))
  have HX1 := hid (hx1.put zE)
  have c0 : W.cell? ⟨p, 0, none⟩ = some (.slice ao 0 cap) := by rw [← eW]; exact c0
  obtain ⟨d0, d1, d2, d3, d4, d5, d6, d7, df⟩ := hx1.cells
  simp only [newE, zE] at eW
  simp only [zE, setE] at HX1 HF1
  clear hq hq0 hx0 A0 hx1
  go_enter Try.func19, Try.ntmps19
  go_wp2_with fail
  refine bodyPost_ret (HX1.out.rest rfl _ _ rfl rfl) rfl ?_
  exact ⟨rfl, HF1.out⟩
set_option maxHeartbeats 1000000 in
theorem qPeek_some (L : List En) (B p : Nat) (v : Value) (h0 : 0 < L.length) (w : World) (hq : Qk w B p v L) : Calls Try.prog 19 #[.pointer (some ⟨p, 0, none⟩)] w fun e w' => e = .returned (.tuple #[ev (att L 0), .bool true]) ∧ Still w w' := by
  obtain ⟨g, cap, rfl, _, _⟩ := hq.ow.head h0
  have A0 := Still.alloc w (.cells (ecs zE) 38)
  have hx0 := newE_eb w zE
  have hq0 := hq.still A0
  obtain ⟨W, eW⟩ : ∃ W, newE w zE = W := ⟨_, rfl⟩
  have hx1 : Eb W w.heap.size zE := by rw [← eW]; exact hx0
  have hq1 : Qk W B p (.slice (some ⟨g, 0, none⟩) L.length cap) L := by rw [← eW]; exact hq0
  have c0 := hq1.cell.1
  obtain ⟨k0, k1, k2, k3, k4, k5, k6, k7, _⟩ := owE hq1.ow (i := 0) h0
  obtain ⟨x, ex⟩ : ∃ x, att L 0 = x := ⟨_, rfl⟩
  rw [ex] at k0 k1 k2 k3 k4 k5 k6 k7 ⊢
  simp only [Nat.zero_mul, Nat.zero_add] at k0 k1 k2 k3 k4 k5 k6 k7
  have HF1 : Hid (Still w (setE W w.heap.size x)) := hid (setE_fr (by rw [← eW]; exact A0) w.heap.size x (.inr (Nat.le_refl _)))
  have HX1 := hid (hx1.put x)
  obtain ⟨d0, d1, d2, d3, d4, d5, d6, d7, df⟩ := hx1.cells
  have h0' : ((L.length : Int) == 0) = false := beq_eq_false_iff_ne.2 (by omega)
  have h0'' : (0 : Int) < (L.length : Int) := by omega
  simp only [newE, zE] at eW
  clear hq hq0 hx0 A0 hx1 hq1 ex
  go_enter Try.func19, Try.ntmps19
  go_wp2_with fail
  refine bodyPost_ret (HX1.out.rest rfl _ _ rfl rfl) rfl ?_
  exact ⟨rfl, HF1.out⟩
end Go.Proofs.Ytgpmjlibanoapaa
