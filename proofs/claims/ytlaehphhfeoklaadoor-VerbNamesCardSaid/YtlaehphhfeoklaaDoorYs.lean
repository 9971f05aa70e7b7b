/- A text cut at blanks, into five pieces at most: strings.SplitN as the program calls it, for texts of whatever length. -/
import Derived.Test.YtlaehphhfeoklaaDoorYi
import Derived.Lib.Split
import Derived.Lib.IndexBytes
import Derived.Deep.OwnRows
namespace Go.Proofs.YtlaehphhfeoklaaDoor
open Go.RowKit
open Vp
set_option maxRecDepth 100000

/-- a blank -/
abbrev blk : ByteArray := ⟨#[32]⟩
/-- the pieces -/
def pcs (s : ByteArray) : List ByteArray := Lib.splitB blk 0 (min 5 (s.size + 1) - 1) s
theorem ix_blk (x : ByteArray) : Lib.indexByte x.data.toList 32 = Lib.indexB x blk := (Lib.index_one x.data.toList 32).symm
theorem info_str : (Tryd.prog.info? 9).map (fun i => (i.zero, i.size, i.bytes)) = some (some (.string ByteArray.empty), 1, 16) := by kernel_rfl
set_option maxHeartbeats 4000000 in
theorem gen5 (s : ByteArray) (hs : s.size ≤ 140737488355328) (N : Nat) (hN : N = min 5 (s.size + 1)) (w : World) : Calls Tryd.prog 41 #[.string s, .string blk, .int .i64 0, .int .i64 5] w fun e w' =>
    e = .returned (.slice (some ⟨w.heap.size, 0, none⟩) (pcs s).length N) ∧ w' = w.alloc (.cells (Lib.cellsOf (pcs s) N) 9) := by
  have eN : min (5 : Int) ((s.size : Int) + 1) = (N : Int) := by omega
  have hN1 : 1 ≤ N := by omega
  have hN5 : N ≤ 5 := by omega
  have hNi1 : (1 : Int) ≤ (N : Int) := by omega
  have hNi5 : (N : Int) ≤ 5 := by omega
  have hmk := run_make_row' (P := Tryd.prog) 60 9 (.string ByteArray.empty) 16 Tryd.underlying60 info_str rfl .i64 .i64 N (by omega) (by omega)
  have HP : Hid (pcs s = Lib.splitB blk 0 (N - 1) s) := hid (by unfold pcs; rw [hN])
  obtain ⟨Z, eZ⟩ : ∃ Z, pcs s = Z := ⟨_, rfl⟩
  rw [eZ] at HP ⊢
  clear hN eZ
  go_enter Tryd.func41, Tryd.ntmps41
  go_wp2_with fail
  clear hmk
  go_loopw [0, 10] (fun x i wr => ∃ (done : List ByteArray) (rest : ByteArray), x = .string rest ∧ i = .int .i64 (done.length : Int) ∧ done.length ≤ N - 1 ∧ rest.size ≤ s.size ∧ wr = w.alloc (.cells (Lib.cellsOf done N) 9) ∧ Hid (done ++ Lib.splitB blk 0 (N - 1 - done.length) rest = Z)) (fun _ i _ => N - (intOf i).toNat)
  case atStart => exact ⟨[], s, rfl, rfl, by simp, Nat.le_refl _, by rw [Lib.cellsOf_nil], hid (by rw [HP.out]; rfl)⟩
  case round =>
    obtain ⟨done, rest, rfl, rfl, hd, hr, rfl, HF⟩ := hrel
    have HL := hid (fun (h : Lib.splitB blk 0 (N - 1 - done.length) rest = [rest]) => show Z.length = done.length + 1 ∧ (Lib.cellsOf done N).setIfInBounds done.length (.string rest) = Lib.cellsOf Z N by
      rw [← HF.out, h]
      exact ⟨by simp, Lib.cellsOf_set (by omega) rest⟩)
    have hcell : (Lib.cellsOf done N)[done.length]? = some (.string ByteArray.empty) := Lib.cellsOf_next (by omega)
    have HIx := hid (Tryd.strings_Index_one rest 32 (w.alloc (.cells (Lib.cellsOf done N) 9)))
    rw [ix_blk] at HIx
    by_cases hlt : done.length < N - 1
    · have hlti : (done.length : Int) < (N : Int) - 1 := by omega
      rcases Lib.indexB_cases rest blk with hix | ⟨i, hix, hroom⟩
      · rw [hix] at HIx
        obtain ⟨f1, f2⟩ := HL.out (Lib.splitB_miss blk 0 _ rest hix)
        go_wp2_with fail
        refine HIx.out.mono ?_
        rintro e w2 ⟨he, hw⟩
        rw [he, hw]
        clear he hw w2
        go_wp2_with fail
        go_ret
        exact ⟨by first | rfl | (rw [f1]; rfl), rfl⟩
      · rw [hix] at HIx
        have c0 : ¬ ((i : Int) < 0) := by omega
        have c1 : (0 : Int) ≤ (i : Int) := by omega
        have c2 : (i : Int) ≤ (rest.size : Int) := by omega
        have c3 : (0 : Int) ≤ (i : Int) + 1 := by omega
        have c4 : (i : Int) + 1 ≤ (rest.size : Int) := by have : blk.size = 1 := rfl; omega
        have HN : Hid ((done ++ [rest.extract 0 i]) ++ Lib.splitB blk 0 (N - 1 - (done.length + 1)) (rest.extract (i + 1) rest.size) = Z) := hid (by
          rw [← HF.out, show N - 1 - done.length = (N - 1 - (done.length + 1)) + 1 by omega, Lib.splitB_hit blk 0 _ rest i hix, List.append_assoc]
          rfl)
        have HC := hid (Lib.cellsOf_set (done := done) (N := N) (by omega) (rest.extract 0 i))
        clear hix HL HF
        go_wp2_with fail
        refine HIx.out.mono ?_
        rintro e w2 ⟨he, hw⟩
        rw [he, hw]
        clear he hw w2
        go_wp2_with fail
        go_roundw
        case rel =>
          exact ⟨done ++ [rest.extract 0 i], rest.extract (i + 1) rest.size, rfl, by simp, by simp; omega, by rw [ByteArray.size_extract]; omega, by rw [← HC.out], by rw [List.length_append]; exact HN⟩
        case measure => simp [intOf]; omega
    · have hlti : ¬ ((done.length : Int) < (N : Int) - 1) := by omega
      obtain ⟨f1, f2⟩ := HL.out (by rw [show N - 1 - done.length = 0 by omega]; rfl)
      clear HIx
      go_wp2_with fail
      go_ret
      exact ⟨by first | rfl | (rw [f1]; rfl), rfl⟩
theorem split5 (s : ByteArray) (hs : s.size ≤ 140737488355328) (w : World) : Calls Tryd.prog 37 #[.string s, .string blk, .int .i64 5] w fun e w' => ∃ N, (pcs s).length ≤ N ∧
    e = .returned (.slice (some ⟨w.heap.size, 0, none⟩) (pcs s).length N) ∧ w' = w.alloc (.cells (Lib.cellsOf (pcs s) N) 9) := by
  have H := hid (gen5 s hs _ rfl w)
  have HL := hid (Lib.splitB_length_le blk 0 (min 5 (s.size + 1) - 1) s)
  have HN : Hid ((pcs s).length ≤ min 5 (s.size + 1)) := hid (by have := HL.out; unfold pcs; omega)
  obtain ⟨N, eN⟩ : ∃ N, min 5 (s.size + 1) = N := ⟨_, rfl⟩
  rw [eN] at H HN
  clear eN HL
  go_enter Tryd.func37, Tryd.ntmps37
  go_wp2_with fail
  refine H.out.mono ?_
  rintro e w2 ⟨he, hw⟩
  rw [he, hw]
  clear he hw w2
  go_wp2_with fail
  go_ret
  exact ⟨N, HN.out, rfl, rfl⟩
end Go.Proofs.YtlaehphhfeoklaaDoor
