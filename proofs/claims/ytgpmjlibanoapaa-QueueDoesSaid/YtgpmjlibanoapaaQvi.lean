/- The document's Push of what is not there. -/
import Derived.Test.YtgpmjlibanoapaaQvf
namespace Go.Proofs.Ytgpmjlibanoapaa
open Go.RowKit
set_option maxRecDepth 100000

theorem cut_act3 {P : Program} {id : Nat} {l : List Oper} {a : Act} {w : World} {K : Act → World → Prop} {Q : Exit → Act → World → Prop} {R : Option Addr → Nat → Nat → World → Prop}
    (h : ∃ A : Option Addr → Nat → Nat → Act, ((∀ x y z u, R x y z u → K (A x y z) u) → (Code.region id l.toArray true).wp P (Exit.then K Q) a w) ∧ ∀ x y z u, R x y z u → K (A x y z) u) : (Code.region id l.toArray true).wp P (Exit.then K Q) a w := by
  obtain ⟨A, h1, h2⟩ := h
  exact h1 h2
set_option maxHeartbeats 4000000 in
theorem rPush_new (x : En) (S : List En) (yb cap : Nat) (ao : Option Addr) (hl : S.length ≤ 4096) (hS : Srt S) (hk : hasK x S = false) (w : World) (hy : Yk w yb ao cap S) : Calls Try.prog 22 #[.pointer (some ⟨yb, 0, none⟩), ev x] w fun e w' => (4096 ≤ S.length ∧ e = .returned (.int .i64 150) ∧ Still w w') ∨ (S.length < 4096 ∧ e = .returned (.int .i64 0) ∧ ∃ ao' cap' S', S'.Perm (S ++ [x]) ∧ Srt S' ∧ Yk w' yb ao' cap' S' ∧ Fr (fun k => k = yb) w w' ∧ ∀ a, ao' = some a → w.heap.size ≤ a.block) := by
  have A0 := Still.alloc w (.cells (ecs x) 38)
  obtain ⟨W, eW⟩ : ∃ W, newE w x = W := ⟨_, rfl⟩
  obtain ⟨bx, ebx⟩ : ∃ g, w.heap.size = g := ⟨_, rfl⟩
  have HS0 : Hid (Still w W) := hid (by rw [← eW]; exact A0)
  have hxW : Eb W bx x := by rw [← eW, ← ebx]; exact newE_eb w x
  have hyW : Yk W yb ao cap S := by rw [← eW]; exact hy.still A0
  have hyl : yb < w.heap.size := block_lt hy.bk
  have HYW := hid hyW
  have q0 := hyW.cell.1
  obtain ⟨c0, c1, c2, c3, c4, c5, c6, c7, _⟩ := hxW.cells
  have HSS := hid hS
  have HKK := hid hk
  have HWl := hid (HS0.out.size)
  have HC : Hid (∀ w1, Still W w1 → Calls Try.prog 30 #[.slice ao S.length cap, ev x] w1 fun e w' => ∃ ao' cap' S', e = .returned (.tuple #[.slice ao' S'.length cap', .bool true]) ∧ S'.Perm (S ++ [x]) ∧ Srt S' ∧ OwG KE 38 w' w1.heap.size (.slice ao' S'.length cap') S' ∧ Still w1 w') := hid (fun w1 h1 => (rPut_any x S cap ao hl HSS.out w1 (HYW.out.sr.still h1)).mono (fun e w' h => by
    rcases h with ⟨h3, _⟩ | ⟨_, h3⟩
    · rw [HKK.out] at h3; cases h3
    · exact h3))
  clear A0 hxW hyW hy hS hk
  go_enter Try.func22, Try.ntmps22
  go_upto_region 1 with fail
  clear eW ebx
  rename_i K0 a0
  refine cut_act3 (K := K0) (R := fun (ao' : Option Addr) (cap' N' : Nat) (w2 : World) => ∃ S' : List En, S'.length = N' ∧ S'.Perm (S ++ [x]) ∧ Srt S' ∧ OwG KE 38 w2 W.heap.size (.slice ao' N' cap') S' ∧ Still W w2) ?_
  apply Exists.intro
  refine And.intro ?_ ?_
  · intro hk
    go_region_with (go_at_call 30; refine (HC.out _ (by first | exact Fr.refl _ _ | exact (Fr.refl _ W).drew | exact (Fr.refl _ W).drewN _)).mono ?_; rintro e w1 ⟨ao', cap', S', he, hp', hs', ho', hst'⟩; rw [he]; have g1 : Still W w1 := (by first | exact hst' | exact Still.trans ((Fr.refl _ W).drew) hst' | exact Still.trans ((Fr.refl _ W).drewN _) hst'); have HO1 : Hid (∃ T : List En, T.length = S'.length ∧ T.Perm (S ++ [x]) ∧ Srt T ∧ OwG KE 38 w1 W.heap.size (.slice ao' S'.length cap') T ∧ Still W w1) := hid ⟨S', rfl, hp', hs', ho'.less (by simp), g1⟩; obtain ⟨N', eN'⟩ : ∃ N, S'.length = N := ⟨_, rfl⟩; rw [eN'] at HO1 ⊢; clear he hp' hs' ho' hst' g1 eN')
    all_goals show K0 _ _
    all_goals simp only [Act.put, List.setIfInBounds_toArray]
    all_goals exact hk ao' cap' N' _ HO1.out
  intro ao' cap' N' w2 ⟨S', hN', hp', hs', ho', hst'⟩
  refine a0 _ _ ?_
  clear q0 c0 c1 c2 c3 c4 c5 c6 c7 a0 HC
  have HS1 := HS0
  subst hN'
  have HY2 := hid (HYW.out.still hst')
  have HS2 := hid (HS1.out.trans hst')
  have HSr : Hid (Sr w2 ao' cap' S') := hid (Sr.own ho' (by have := hp'.length_eq; simp at this; omega))
  have HAo : Hid (∀ a, ao' = some a → W.heap.size ≤ a.block) := hid (fun a ha => by
    obtain ⟨a2, c2, e2, hh⟩ := ho'.slice
    cases e2
    rcases hh with h | ⟨g, h, hg, _⟩
    · rw [ha] at h; cases h
    · rw [ha] at h; cases h; exact hg)
  have HP := hid (And.intro hp' hs')
  obtain ⟨N', eN'⟩ : ∃ N, S'.length = N := ⟨_, rfl⟩
  have HN' := hid eN'
  rw [eN']
  clear hp' hs' ho' hst' eN'
  obtain ⟨c0, cf⟩ := HY2.out.cell
  by_cases h5 : S.length < 4096
  · have h5' : ¬ (4096 : Int) ≤ (S.length : Int) := by omega
    have hy3 := HY2.out.put HSr.out (fun a ha _ => by have := HAo.out a ha; have := HS1.out.size; omega)
    rw [HN'.out] at hy3
    have HY3 := hid hy3
    have HF3 := hid ((Still.to (F := fun k => k = yb) HS2.out).setCell ⟨yb, 0, none⟩ (.slice ao' N' cap') (.inl rfl))
    clear hy3
    go_wp2_with fail
    (try simp only [Exit.inBlock, Exit.then])
    go_ret
    have HA3 : Hid (∀ a, ao' = some a → w.heap.size ≤ a.block) := hid (fun a ha => by have := HAo.out a ha; have := HS1.out.size; omega)
    exact .inr ⟨rfl, ao', cap', S', HP.out.1, HP.out.2, HY3.out, HF3.out, HA3.out⟩
  · have h6 : S.length = 4096 := by omega
    rw [h6] at c0
    go_wp2_with fail
    (try simp only [Exit.inBlock, Exit.then])
    go_ret
    exact .inl ⟨by omega, rfl, HS2.out⟩
end Go.Proofs.Ytgpmjlibanoapaa
