/- Plain: what bytes that are taken up come to, case by case. No program is named here. -/
import Derived.Test.YthgjhfooodcfbaaCs
namespace Go.Proofs.Ythgjhfooodcfbaa.Cp

theorem bytesS_err {most : Int} {bs : List UInt8} {N K : Nat} {E : Int} (h : num 0 0 bs = (N, K, E)) (hE : E ≠ 0) : bytesS most bs 0 = ([], bs, E) := by
  unfold bytesS firstS
  rw [h]
  dsimp only
  rw [if_neg (by simp), if_pos hE]
  dsimp only
  rw [if_pos hE]
theorem bytesS_long {most : Int} {bs : List UInt8} {N K : Nat} (h : num 0 0 bs = (N, K, 0)) (hm : most < 0 ∨ most < (N : Int)) : bytesS most bs 0 = ([], bs, 22) := by
  have hf : firstS most bs = ([], 0, 22) := by
    unfold firstS
    rw [h]
    dsimp only
    rw [if_neg (by simp), if_pos hm]
  unfold bytesS
  rw [if_neg (by simp), hf]
  rfl
theorem bytesS_short {most : Int} {bs : List UInt8} {N K : Nat} (h : num 0 0 bs = (N, K, 0)) (hm : ¬ (most < 0 ∨ most < (N : Int))) (hs : bs.length - K < N) : bytesS most bs 0 = ([], bs, 20) := by
  have hf : firstS most bs = ([], 0, 20) := by
    unfold firstS
    rw [h]
    dsimp only
    rw [if_neg (by simp), if_neg hm, if_pos hs]
  unfold bytesS
  rw [if_neg (by simp), hf]
  rfl
theorem bytesS_ok {most : Int} {bs : List UInt8} {N K : Nat} (h : num 0 0 bs = (N, K, 0)) (hm : ¬ (most < 0 ∨ most < (N : Int))) (hs : ¬ bs.length - K < N) : bytesS most bs 0 = ((bs.drop K).take N, bs.drop (K + N), 0) := by
  have hf : firstS most bs = ((bs.drop K).take N, K + N, 0) := by
    unfold firstS
    rw [h]
    dsimp only
    rw [if_neg (by simp), if_neg hm, if_neg hs]
  unfold bytesS
  rw [if_neg (by simp), hf]
  rfl
end Go.Proofs.Ythgjhfooodcfbaa.Cp
