/- The standard maps: they are read as they are given, and they may be. -/
import Derived.Test.YtnoaomocdmkigabPs
import Derived.Test.YtnoaomocdmkigabBh
import Derived.KernelRfl
namespace Go.Proofs.Ytnoaomocdmkigab
open Go.RowKit
open Pu Gp Ap

/-- each cell of a list is a neighbour of one that was there before -/
def pathB (C N : Nat) (s : ByteArray) : List Nat → List (Nat × Nat) → Bool
  | _, [] => true
  | vis, (i, j) :: l => vis.contains j && (decide (C ≤ i) && (decide (i + C < N) && (!(byt s i == 35) && ((i + 1 == j || (i == j + 1 || (i == j + C || i + C == j))) && pathB C N s (i :: vis) l))))
def seenB : List Nat → List (Nat × Nat) → List Nat
  | vis, [] => vis
  | vis, (i, _) :: l => seenB (i :: vis) l
theorem path_ok {C N : Nat} {s : ByteArray} {f : Nat} (hC : 1 ≤ C) : ∀ (l : List (Nat × Nat)) (vis : List Nat), (∀ v ∈ vis, Rch C N s f v) → pathB C N s vis l = true → ∀ v ∈ seenB vis l, Rch C N s f v
  | [], vis, h, _ => h
  | (i, j) :: l, vis, h, k => by
    rw [pathB] at k
    simp only [Bool.and_eq_true, Bool.or_eq_true, decide_eq_true_eq, beq_iff_eq, Bool.not_eq_true', beq_eq_false_iff_ne, List.contains_iff_mem] at k
    obtain ⟨k1, k2, k3, k4, k5, k6⟩ := k
    rw [seenB]
    refine path_ok hC l (i :: vis) (fun v hv => ?_) k6
    rcases List.mem_cons.1 hv with rfl | hv
    · have hj := h j k1
      refine fun I hf hI => hI v k2 k3 k4 ?_
      have := hj I hf hI
      unfold nbB
      simp only [Bool.or_eq_true]
      rcases k5 with e | e | e | e
      · exact .inr (.inl (by rw [e]; exact this))
      · exact .inl (by rw [show v - 1 = j by omega]; exact this)
      · exact .inr (.inr (.inl (by rw [show v - C = j by omega]; exact this)))
      · exact .inr (.inr (.inr (by rw [e]; exact this)))
    · exact h v hv
/-- all that is marked lies in a list -/
def mrkL (vis : List Nat) (s : ByteArray) : Nat → Bool
  | 0 => true
  | n + 1 => mrkL vis s n && (!((decide (49 ≤ byt s n) && decide (byt s n ≤ 54)) || byt s n == 42) || vis.contains n)
theorem mrkL_ok {vis : List Nat} {s : ByteArray} {I : Nat → Bool} (h : ∀ v ∈ vis, I v = true) : ∀ n, mrkL vis s n = true → mrkB I s n = true
  | 0, _ => rfl
  | n + 1, k => by
    rw [mrkL, Bool.and_eq_true] at k
    rw [mrkB, mrkL_ok h n k.1, Bool.true_and]
    have := k.2
    rw [Bool.or_eq_true] at this ⊢
    rcases this with e | e
    · exact .inl e
    · exact .inr (h n (by simpa using e))
theorem chk_zero {C R : Nat} {s : ByteArray} {f : Nat} (l : List (Nat × Nat)) (h1 : forB (C : Int) (R : Int) s = true) (h2 : (decide (2 ≤ mny s) && decide (cstN s s.size = mny s)) = true) (h3 : fnd s 49 0 = (f : Int)) (h4 : pathB C s.size s [f] l = true) (h5 : mrkL (seenB [f] l) s s.size = true) : ChkV (C : Int) (R : Int) s 0 := by
  obtain ⟨q1, _⟩ := form_shape h1
  obtain ⟨I, hI⟩ := isR_ex C s.size s f
  simp only [Bool.and_eq_true, decide_eq_true_eq] at h2
  refine .inr (.inr ⟨h1, h2.1, f, I, h3, by rw [Int.toNat_natCast]; exact hI, ?_⟩)
  have hr := path_ok (f := f) (by omega) l [f] (fun v hv => by rw [List.mem_singleton.1 hv]; exact rch_from C s.size s f) h4
  rw [check_same h1 I, decide_eq_true h2.2, mrkL_ok (fun v hv => hr v hv I hI.1 hI.2.1) s.size h5]
  rfl

/-- the text of map 0 -/
def txt0 : ByteArray := ⟨#[35, 35, 35, 35, 35, 35, 35, 35, 35, 35, 35, 35, 35, 35, 35, 35, 10, 35, 49, 46, 46, 46, 46, 46, 46, 46, 46, 46, 46, 46, 46, 50, 35, 10, 35, 46, 46, 35, 35, 46, 46, 46, 46, 46, 46, 35, 35, 46, 46, 35, 10, 35, 46, 46, 35, 46, 46, 46, 42, 42, 46, 46, 46, 35, 46, 46, 35, 10, 35, 46, 46, 46, 46, 46, 46, 35, 35, 46, 46, 46, 46, 46, 46, 35, 10, 35, 46, 46, 42, 46, 46, 46, 46, 46, 46, 46, 46, 42, 46, 46, 35, 10, 35, 46, 46, 42, 46, 46, 46, 46, 46, 46, 46, 46, 42, 46, 46, 35, 10, 35, 46, 46, 46, 46, 46, 46, 35, 35, 46, 46, 46, 46, 46, 46, 35, 10, 35, 46, 46, 35, 46, 46, 46, 42, 42, 46, 46, 46, 35, 46, 46, 35, 10, 35, 46, 46, 35, 35, 46, 46, 46, 46, 46, 46, 35, 35, 46, 46, 35, 10, 35, 51, 46, 46, 46, 46, 46, 46, 46, 46, 46, 46, 46, 46, 52, 35, 10, 35, 35, 35, 35, 35, 35, 35, 35, 35, 35, 35, 35, 35, 35, 35, 35, 10]⟩
def way0 : List (Nat × Nat) := [(18, 17), (33, 17), (19, 18), (34, 18), (49, 33), (20, 19), (50, 34), (65, 49), (21, 20), (66, 50), (81, 65), (22, 21), (67, 66), (97, 81), (23, 22), (38, 22), (83, 67), (113, 97), (24, 23), (39, 23), (54, 38), (99, 83), (129, 113), (25, 24), (40, 24), (55, 39), (70, 54), (145, 129), (26, 25), (56, 40), (86, 70), (161, 145), (27, 26), (42, 26), (102, 86), (28, 27), (58, 42), (118, 102), (29, 28), (59, 58), (134, 118), (30, 29), (75, 59), (135, 134), (46, 30), (76, 75), (136, 135), (62, 46), (92, 76), (78, 62), (108, 92), (94, 78), (110, 94), (126, 110), (142, 126), (158, 142), (174, 158)]
theorem std0_form : forB 16 12 std0 = true := by kernel_rfl
theorem std0_ok : ChkV 16 12 std0 0 := chk_zero (C := 16) (R := 12) (f := 17) way0 std0_form (by kernel_rfl) (by kernel_rfl) (by kernel_rfl) (by kernel_rfl)
theorem txt0_read : prs 25 0 0 ByteArray.empty txt0 = .inr (16, 12, std0) := by kernel_rfl
theorem txt0_ok : PrsV txt0 16 12 std0 0 0 := .inr ⟨by decide +kernel, .inr ⟨16, 12, std0, txt0_read, std0_ok, rfl, .inl ⟨rfl, rfl, rfl, rfl⟩⟩⟩
/-- the text of map 1 -/
def txt1 : ByteArray := ⟨#[35, 35, 35, 35, 35, 35, 35, 35, 35, 35, 35, 35, 35, 35, 35, 35, 35, 35, 35, 35, 10, 35, 49, 46, 46, 46, 46, 46, 46, 46, 46, 51, 46, 46, 46, 46, 46, 46, 46, 50, 35, 10, 35, 46, 46, 35, 35, 35, 46, 46, 42, 46, 46, 46, 46, 42, 46, 46, 35, 35, 46, 35, 10, 35, 46, 46, 35, 46, 46, 46, 46, 46, 46, 46, 35, 46, 46, 46, 46, 46, 46, 46, 35, 10, 35, 46, 46, 46, 46, 46, 42, 46, 46, 46, 46, 35, 46, 46, 46, 46, 42, 46, 46, 35, 10, 35, 46, 46, 46, 46, 46, 46, 46, 46, 46, 46, 35, 46, 46, 46, 46, 46, 46, 46, 35, 10, 35, 46, 46, 35, 35, 46, 46, 42, 46, 46, 46, 46, 46, 46, 42, 46, 35, 35, 46, 35, 10, 35, 52, 46, 46, 46, 46, 46, 46, 46, 46, 54, 46, 46, 46, 46, 46, 46, 46, 53, 35, 10, 35, 35, 35, 35, 35, 35, 35, 35, 35, 35, 35, 35, 35, 35, 35, 35, 35, 35, 35, 35, 10]⟩
def way1 : List (Nat × Nat) := [(22, 21), (41, 21), (23, 22), (61, 41), (24, 23), (81, 61), (25, 24), (101, 81), (26, 25), (121, 101), (27, 26), (46, 26), (141, 121), (28, 27), (47, 27), (66, 46), (29, 28), (48, 28), (67, 47), (86, 66), (30, 29), (87, 67), (31, 30), (50, 30), (107, 87), (32, 31), (70, 50), (127, 107), (33, 32), (90, 70), (34, 33), (53, 33), (110, 90), (35, 34), (54, 34), (130, 110), (36, 35), (55, 35), (74, 54), (150, 130), (37, 36), (75, 55), (94, 74), (38, 37), (76, 75), (114, 94), (58, 38), (96, 76), (134, 114), (78, 58), (98, 78), (118, 98), (138, 118), (158, 138)]
theorem std1_form : forB 20 9 std1 = true := by kernel_rfl
theorem std1_ok : ChkV 20 9 std1 0 := chk_zero (C := 20) (R := 9) (f := 21) way1 std1_form (by kernel_rfl) (by kernel_rfl) (by kernel_rfl) (by kernel_rfl)
theorem txt1_read : prs 25 0 0 ByteArray.empty txt1 = .inr (20, 9, std1) := by kernel_rfl
theorem txt1_ok : PrsV txt1 20 9 std1 0 0 := .inr ⟨by decide +kernel, .inr ⟨20, 9, std1, txt1_read, std1_ok, rfl, .inl ⟨rfl, rfl, rfl, rfl⟩⟩⟩
/-- the text of map 2 -/
def txt2 : ByteArray := ⟨#[35, 35, 35, 35, 35, 35, 35, 35, 35, 35, 35, 35, 10, 35, 49, 46, 46, 46, 35, 35, 46, 46, 46, 50, 35, 10, 35, 46, 42, 46, 46, 46, 46, 46, 46, 42, 46, 35, 10, 35, 46, 46, 46, 35, 46, 46, 35, 46, 46, 46, 35, 10, 35, 53, 46, 46, 35, 46, 46, 35, 46, 46, 54, 35, 10, 35, 46, 46, 46, 35, 46, 46, 35, 46, 46, 46, 35, 10, 35, 46, 42, 46, 46, 46, 46, 46, 46, 42, 46, 35, 10, 35, 51, 46, 46, 46, 35, 35, 46, 46, 46, 52, 35, 10, 35, 35, 35, 35, 35, 35, 35, 35, 35, 35, 35, 35, 10]⟩
def way2 : List (Nat × Nat) := [(14, 13), (25, 13), (15, 14), (26, 14), (37, 25), (16, 15), (38, 26), (49, 37), (28, 16), (50, 38), (61, 49), (29, 28), (62, 50), (73, 61), (30, 29), (74, 62), (85, 73), (31, 30), (19, 31), (32, 31), (20, 19), (33, 32), (21, 20), (34, 33), (45, 33), (22, 21), (46, 34), (57, 45), (58, 46), (69, 57), (70, 58), (81, 69), (82, 70), (94, 82)]
theorem std2_form : forB 12 9 std2 = true := by kernel_rfl
theorem std2_ok : ChkV 12 9 std2 0 := chk_zero (C := 12) (R := 9) (f := 13) way2 std2_form (by kernel_rfl) (by kernel_rfl) (by kernel_rfl) (by kernel_rfl)
theorem txt2_read : prs 25 0 0 ByteArray.empty txt2 = .inr (12, 9, std2) := by kernel_rfl
theorem txt2_ok : PrsV txt2 12 9 std2 0 0 := .inr ⟨by decide +kernel, .inr ⟨12, 9, std2, txt2_read, std2_ok, rfl, .inl ⟨rfl, rfl, rfl, rfl⟩⟩⟩
/-- the text of map 3 -/
def txt3 : ByteArray := ⟨#[35, 35, 35, 35, 35, 35, 35, 35, 10, 35, 49, 46, 46, 46, 46, 50, 35, 10, 35, 46, 46, 42, 42, 46, 46, 35, 10, 35, 46, 46, 46, 46, 46, 46, 35, 10, 35, 51, 46, 46, 46, 46, 52, 35, 10, 35, 35, 35, 35, 35, 35, 35, 35, 10]⟩
def way3 : List (Nat × Nat) := [(10, 9), (17, 9), (11, 10), (25, 17), (12, 11), (19, 11), (33, 25), (13, 12), (20, 12), (14, 13), (22, 14), (30, 22), (38, 30)]
theorem std3_form : forB 8 6 std3 = true := by kernel_rfl
theorem std3_ok : ChkV 8 6 std3 0 := chk_zero (C := 8) (R := 6) (f := 9) way3 std3_form (by kernel_rfl) (by kernel_rfl) (by kernel_rfl) (by kernel_rfl)
theorem txt3_read : prs 25 0 0 ByteArray.empty txt3 = .inr (8, 6, std3) := by kernel_rfl
theorem txt3_ok : PrsV txt3 8 6 std3 0 0 := .inr ⟨by decide +kernel, .inr ⟨8, 6, std3, txt3_read, std3_ok, rfl, .inl ⟨rfl, rfl, rfl, rfl⟩⟩⟩
end Go.Proofs.Ytnoaomocdmkigab
