/- The document's Below. -/
import Derived.Test.YtgpmjlibanoapaaQvc
namespace Go.Proofs.Ytgpmjlibanoapaa
open Go.RowKit
set_option maxRecDepth 100000

set_option maxHeartbeats 2000000 in
theorem rBelow_any (f : Int) (S : List En) (yb cap : Nat) (ao : Option Addr) (hl : S.length ≤ 4096) (w : World) (hy : Yk w yb ao cap S) (hap : ∀ a, ao = some a → 0 < S.length → a.block ≠ yb) : Calls Try.prog 24 #[.pointer (some ⟨yb, 0, none⟩), .int .i64 f] w fun e w' => ∃ v k, e = .returned v ∧ k ≤ S.length ∧ (∀ t, t < k → (att S t).fr ≤ f) ∧ (k < S.length → f < (att S k).fr) ∧ OwG KE 38 w' w.heap.size v (S.take k) ∧ Yk w' yb (cutE ao cap k) (cap - k) (S.drop k) ∧ Fr (fun k => k = yb) w w' := by
  have HY := hid hy
  have HAP := hid hap
  have hyl : yb < w.heap.size := block_lt hy.bk
  clear hy hap
  go_enter Try.func24, Try.ntmps24
  go_wp2_with fail
  go_loopw [5] (fun u wr => ∃ k : Nat, k ≤ S.length ∧ u = .int .i64 (k : Int) ∧ Hid (∀ t, t < k → (att S t).fr ≤ f) ∧ wr = w) (fun u _ => S.length - (intOf u).toNat)
  case atStart => exact ⟨0, by omega, rfl, hid (fun t ht => by omega), rfl⟩
  case round =>
    obtain ⟨k, hk, rfl, HK, rfl⟩ := hrel
    have c0 := HY.out.cell.1
    by_cases hkn : k < S.length
    · have hlt : (k : Int) < (S.length : Int) := by omega
      obtain ⟨B, o, e⟩ := HY.out.sr.rd.at (by omega)
      subst e
      obtain ⟨k0, _, _, _, _, _, _, _⟩ := rdE HY.out.sr.rd hkn
      obtain ⟨x, ex⟩ : ∃ x, att S k = x := ⟨_, rfl⟩
      rw [ex] at k0
      by_cases hf : x.fr ≤ f
      · have HK2 : Hid (∀ t, t < k + 1 → (att S t).fr ≤ f) := hid (fun t ht => if e : t = k then (by rw [e, ex]; exact hf) else HK.out t (by omega))
        clear ex
        go_wp2_with fail
        go_roundw
        case rel => exact ⟨k + 1, by omega, by go_num, HK2, by trivial⟩
        case measure => simp [intOf]; omega
      · have HFX : Hid (k < S.length → f < (att S k).fr) := hid (fun _ => by rw [ex]; omega)
        clear ex
        have HSA : Hid (Sr wr (some ⟨B, o, none⟩) cap (S.take k)) := hid (HY.out.sr.take hk)
        have HLn : Hid (([] : List En).length + (S.take k).length ≤ 100000) := hid (by simp; omega)
        have hcut := fun w => run_uptoE w (some ⟨B, o, none⟩) S.length cap k (by have := HY.out.sr.le; omega)
        have htk : (S.take k).length = k := by simp; omega
        by_cases hck : cap = k
        · obtain rfl : k = cap := hck.symm
          clear hck
          go_wp2_with (
            at_builtin
            refine wpList_appM _ rfl _ _ rfl wr.heap.size (.slice none 0 0) [] (S.take k) (some ⟨B, o, none⟩) k k rfl rfl htk (OwG.nil _ _) HSA.out HLn.out (Nat.le_refl _) ?_
            intro v' w' ho' hf'
            rw [List.nil_append] at ho'
            have hs' : Still wr w' := hf'.mono (fun k _ e => by cases e)
            have hy' := HY.out.still hs'
            obtain ⟨ao2, cap2, e2, _⟩ := ho'.slice
            subst e2
            rw [htk] at ho'
            have HO' := hid (fun Z => ho'.keep (F := fun k => k = yb) ((Fr.refl (fun k => k = yb) w').setCell ⟨yb, 0, none⟩ Z (.inl rfl)) (fun k hk e => by have := (ho'.block e).1; omega))
            have hsd := hy'.sr.drop hk
            have hyf := hy'.put hsd (fun a ha h0 => by
              obtain ⟨a0, e0, e1⟩ := cutE_block a ha
              rw [e1]
              exact HAP.out a0 e0 (by simp at h0; omega))
            have HYF := hid hyf
            have HFF : Hid (Fr (fun k => k = yb) wr (w'.setCell ⟨yb, 0, none⟩ (.slice (cutE (some ⟨B, o, none⟩) k k) (S.drop k).length (k - k)))) := hid ((Still.to hs').setCell _ _ (.inl rfl))
            clear c0
            obtain ⟨c0, cf⟩ := hy'.cell
            rw [htk]
            clear ho' hf' hs' hy' hsd hyf)
          go_ret
          refine ⟨_, rfl, k, hk, HK.out, HFX.out, HO'.out _, ?_, ?_⟩
          · have := HYF.out
            simp [cutE] at this ⊢
            exact this
          · have := HFF.out
            simp [cutE] at this ⊢
            exact this
        · go_wp2_with (
            at_builtin
            refine wpList_appM _ rfl _ _ rfl wr.heap.size (.slice none 0 0) [] (S.take k) (some ⟨B, o, none⟩) k cap rfl rfl htk (OwG.nil _ _) HSA.out HLn.out (Nat.le_refl _) ?_
            intro v' w' ho' hf'
            rw [List.nil_append] at ho'
            have hs' : Still wr w' := hf'.mono (fun k _ e => by cases e)
            have hy' := HY.out.still hs'
            obtain ⟨ao2, cap2, e2, _⟩ := ho'.slice
            subst e2
            rw [htk] at ho'
            have HO' := hid (fun Z => ho'.keep (F := fun k => k = yb) ((Fr.refl (fun k => k = yb) w').setCell ⟨yb, 0, none⟩ Z (.inl rfl)) (fun k hk e => by have := (ho'.block e).1; omega))
            have hsd := hy'.sr.drop hk
            have hyf := hy'.put hsd (fun a ha h0 => by
              obtain ⟨a0, e0, e1⟩ := cutE_block a ha
              rw [e1]
              exact HAP.out a0 e0 (by simp at h0; omega))
            have HYF := hid hyf
            have HFF : Hid (Fr (fun k => k = yb) wr (w'.setCell ⟨yb, 0, none⟩ (.slice (cutE (some ⟨B, o, none⟩) cap k) (S.drop k).length (cap - k)))) := hid ((Still.to hs').setCell _ _ (.inl rfl))
            clear c0
            obtain ⟨c0, cf⟩ := hy'.cell
            rw [htk]
            clear ho' hf' hs' hy' hsd hyf)
          go_ret
          refine ⟨_, rfl, k, hk, HK.out, HFX.out, HO'.out _, ?_, ?_⟩
          · have := HYF.out
            simp [cutE, hck, add_plain] at this ⊢
            exact this
          · have := HFF.out
            simp [cutE, hck, add_plain] at this ⊢
            exact this
    · have hge : ¬ (k : Int) < (S.length : Int) := by omega
      have HFX : Hid (k < S.length → f < (att S k).fr) := hid (fun h => absurd h hkn)
      have HSA : Hid (Sr wr ao cap (S.take k)) := hid (HY.out.sr.take hk)
      have HLn : Hid (([] : List En).length + (S.take k).length ≤ 100000) := hid (by simp; omega)
      have hcut := fun w => run_uptoE w ao S.length cap k (by have := HY.out.sr.le; omega)
      have htk : (S.take k).length = k := by simp; omega
      by_cases hck : cap = k
      · obtain rfl : k = cap := hck.symm
        clear hck
        go_wp2_with (
          at_builtin
          refine wpList_appM _ rfl _ _ rfl wr.heap.size (.slice none 0 0) [] (S.take k) ao k k rfl rfl htk (OwG.nil _ _) HSA.out HLn.out (Nat.le_refl _) ?_
          intro v' w' ho' hf'
          rw [List.nil_append] at ho'
          have hs' : Still wr w' := hf'.mono (fun k _ e => by cases e)
          have hy' := HY.out.still hs'
          obtain ⟨ao2, cap2, e2, _⟩ := ho'.slice
          subst e2
          rw [htk] at ho'
          have HO' := hid (fun Z => ho'.keep (F := fun k => k = yb) ((Fr.refl (fun k => k = yb) w').setCell ⟨yb, 0, none⟩ Z (.inl rfl)) (fun k hk e => by have := (ho'.block e).1; omega))
          have hsd := hy'.sr.drop hk
          have hyf := hy'.put hsd (fun a ha h0 => by
            obtain ⟨a0, e0, e1⟩ := cutE_block a ha
            rw [e1]
            exact HAP.out a0 e0 (by simp at h0; omega))
          have HYF := hid hyf
          have HFF : Hid (Fr (fun k => k = yb) wr (w'.setCell ⟨yb, 0, none⟩ (.slice (cutE ao k k) (S.drop k).length (k - k)))) := hid ((Still.to hs').setCell _ _ (.inl rfl))
          clear c0
          obtain ⟨c0, cf⟩ := hy'.cell
          rw [htk]
          clear ho' hf' hs' hy' hsd hyf)
        go_ret
        refine ⟨_, rfl, k, hk, HK.out, HFX.out, HO'.out _, ?_, ?_⟩
        · have := HYF.out
          simp [cutE] at this ⊢
          exact this
        · have := HFF.out
          simp [cutE] at this ⊢
          exact this
      · go_wp2_with (
          at_builtin
          refine wpList_appM _ rfl _ _ rfl wr.heap.size (.slice none 0 0) [] (S.take k) ao k cap rfl rfl htk (OwG.nil _ _) HSA.out HLn.out (Nat.le_refl _) ?_
          intro v' w' ho' hf'
          rw [List.nil_append] at ho'
          have hs' : Still wr w' := hf'.mono (fun k _ e => by cases e)
          have hy' := HY.out.still hs'
          obtain ⟨ao2, cap2, e2, _⟩ := ho'.slice
          subst e2
          rw [htk] at ho'
          have HO' := hid (fun Z => ho'.keep (F := fun k => k = yb) ((Fr.refl (fun k => k = yb) w').setCell ⟨yb, 0, none⟩ Z (.inl rfl)) (fun k hk e => by have := (ho'.block e).1; omega))
          have hsd := hy'.sr.drop hk
          have hyf := hy'.put hsd (fun a ha h0 => by
            obtain ⟨a0, e0, e1⟩ := cutE_block a ha
            rw [e1]
            exact HAP.out a0 e0 (by simp at h0; omega))
          have HYF := hid hyf
          have HFF : Hid (Fr (fun k => k = yb) wr (w'.setCell ⟨yb, 0, none⟩ (.slice (cutE ao cap k) (S.drop k).length (cap - k)))) := hid ((Still.to hs').setCell _ _ (.inl rfl))
          clear c0
          obtain ⟨c0, cf⟩ := hy'.cell
          rw [htk]
          clear ho' hf' hs' hy' hsd hyf)
        go_ret
        refine ⟨_, rfl, k, hk, HK.out, HFX.out, HO'.out _, ?_, ?_⟩
        · have := HYF.out
          simp [cutE, hck] at this ⊢
          exact this
        · have := HFF.out
          simp [cutE, hck] at this ⊢
          exact this
end Go.Proofs.Ytgpmjlibanoapaa
