/- The program's Standard. -/
import Derived.Test.YtnoaomocdmkigabSt
import Derived.Test.YtnoaomocdmkigabPp
import Derived.Test.YtnoaomocdmkigabSd
namespace Go.Proofs.Ytnoaomocdmkigab
open Go.RowKit
open Pu Gp Ap

theorem parse_is (t : ByteArray) (hz : t.size ≤ 281474976710656) {C R : Int} {S : ByteArray} {v n : Int} (h : PrsV t C R S v n) (w : World) :
    Calls Try.prog 8 #[.string t] w fun e w' => e = .returned (.tuple #[ar C R S, .int .i64 v, .int .i64 n]) ∧ Still w w' := by
  refine (parse_any t hz w).mono ?_
  rintro e w1 ⟨C', R', S', v', n', rfl, hp, h1⟩
  obtain ⟨rfl, rfl, rfl, rfl, rfl⟩ := prsV_one hp h
  exact ⟨rfl, h1⟩
theorem astd_no (n : Int) (h : n < 0 ∨ 3 < n) (w : World) : Calls Try.prog 18 #[.int .i64 n] w fun e w' => e = .returned (.tuple #[ar 0 0 ByteArray.empty, .int .i64 1]) ∧ Still w w' := by
  have p := newA_ab w 0 0 ByteArray.empty
  have h0 : (n == 0) = false := by simp; omega
  have h1 : (n == 1) = false := by simp; omega
  have h2 : (n == 2) = false := by simp; omega
  have h3 : (n == 3) = false := by simp; omega
  clear h
  go_enter Try.func18, Try.ntmps18
  go_wp2_with fail
  exact bodyPost_ret (p.rest rfl _ _ rfl rfl) rfl ⟨rfl, Still.alloc w _⟩
theorem astd_0 (w : World) : Calls Try.prog 18 #[.int .i64 0] w fun e w' => e = .returned (.tuple #[ar 16 12 std0, .int .i64 0]) ∧ Still w w' := by
  have p := newA_ab w 0 0 ByteArray.empty
  have HS0 := hid (Still.alloc w (.cells #[.int .i64 0, .int .i64 0, .string ByteArray.empty] 23))
  have HP := hid (fun u => parse_is txt0 (by decide +kernel) txt0_ok u)
  obtain ⟨S, eS⟩ : ∃ S, std0 = S := ⟨_, rfl⟩
  rw [eS] at HP ⊢
  clear eS
  go_enter Try.func18, Try.ntmps18
  go_wp2_with fail
  refine (HP.out _).mono ?_
  rintro e w1 ⟨rfl, h1⟩
  have p1 := p.still h1
  have A2 := Still.alloc w1 (.cells #[.int .i64 16, .int .i64 12, .string S] 23)
  have p2 := p1.still A2
  have q2 := newA_ab w1 16 12 S
  have HS2 := hid ((HS0.out.trans h1).trans A2)
  clear p p1 h1 A2 HS0 HP
  obtain ⟨c0, c1, c2, cf⟩ := q2.cells
  obtain ⟨d0, d1, d2, df⟩ := p2.cells
  go_wp2_with fail
  (try simp only [Exit.inBlock, Exit.then])
  exact bodyPost_ret ((p2.set _ _ _).rest rfl _ _ rfl rfl) rfl ⟨rfl, setA_fr HS2.out _ _ _ _ (.inr (Nat.le_refl _))⟩
theorem astd_1 (w : World) : Calls Try.prog 18 #[.int .i64 1] w fun e w' => e = .returned (.tuple #[ar 20 9 std1, .int .i64 0]) ∧ Still w w' := by
  have p := newA_ab w 0 0 ByteArray.empty
  have HS0 := hid (Still.alloc w (.cells #[.int .i64 0, .int .i64 0, .string ByteArray.empty] 23))
  have HP := hid (fun u => parse_is txt1 (by decide +kernel) txt1_ok u)
  obtain ⟨S, eS⟩ : ∃ S, std1 = S := ⟨_, rfl⟩
  rw [eS] at HP ⊢
  clear eS
  go_enter Try.func18, Try.ntmps18
  go_wp2_with fail
  refine (HP.out _).mono ?_
  rintro e w1 ⟨rfl, h1⟩
  have p1 := p.still h1
  have A2 := Still.alloc w1 (.cells #[.int .i64 20, .int .i64 9, .string S] 23)
  have p2 := p1.still A2
  have q2 := newA_ab w1 20 9 S
  have HS2 := hid ((HS0.out.trans h1).trans A2)
  clear p p1 h1 A2 HS0 HP
  obtain ⟨c0, c1, c2, cf⟩ := q2.cells
  obtain ⟨d0, d1, d2, df⟩ := p2.cells
  go_wp2_with fail
  (try simp only [Exit.inBlock, Exit.then])
  exact bodyPost_ret ((p2.set _ _ _).rest rfl _ _ rfl rfl) rfl ⟨rfl, setA_fr HS2.out _ _ _ _ (.inr (Nat.le_refl _))⟩
theorem astd_2 (w : World) : Calls Try.prog 18 #[.int .i64 2] w fun e w' => e = .returned (.tuple #[ar 12 9 std2, .int .i64 0]) ∧ Still w w' := by
  have p := newA_ab w 0 0 ByteArray.empty
  have HS0 := hid (Still.alloc w (.cells #[.int .i64 0, .int .i64 0, .string ByteArray.empty] 23))
  have HP := hid (fun u => parse_is txt2 (by decide +kernel) txt2_ok u)
  obtain ⟨S, eS⟩ : ∃ S, std2 = S := ⟨_, rfl⟩
  rw [eS] at HP ⊢
  clear eS
  go_enter Try.func18, Try.ntmps18
  go_wp2_with fail
  refine (HP.out _).mono ?_
  rintro e w1 ⟨rfl, h1⟩
  have p1 := p.still h1
  have A2 := Still.alloc w1 (.cells #[.int .i64 12, .int .i64 9, .string S] 23)
  have p2 := p1.still A2
  have q2 := newA_ab w1 12 9 S
  have HS2 := hid ((HS0.out.trans h1).trans A2)
  clear p p1 h1 A2 HS0 HP
  obtain ⟨c0, c1, c2, cf⟩ := q2.cells
  obtain ⟨d0, d1, d2, df⟩ := p2.cells
  go_wp2_with fail
  (try simp only [Exit.inBlock, Exit.then])
  exact bodyPost_ret ((p2.set _ _ _).rest rfl _ _ rfl rfl) rfl ⟨rfl, setA_fr HS2.out _ _ _ _ (.inr (Nat.le_refl _))⟩
theorem astd_3 (w : World) : Calls Try.prog 18 #[.int .i64 3] w fun e w' => e = .returned (.tuple #[ar 8 6 std3, .int .i64 0]) ∧ Still w w' := by
  have p := newA_ab w 0 0 ByteArray.empty
  have HS0 := hid (Still.alloc w (.cells #[.int .i64 0, .int .i64 0, .string ByteArray.empty] 23))
  have HP := hid (fun u => parse_is txt3 (by decide +kernel) txt3_ok u)
  obtain ⟨S, eS⟩ : ∃ S, std3 = S := ⟨_, rfl⟩
  rw [eS] at HP ⊢
  clear eS
  go_enter Try.func18, Try.ntmps18
  go_wp2_with fail
  refine (HP.out _).mono ?_
  rintro e w1 ⟨rfl, h1⟩
  have p1 := p.still h1
  have A2 := Still.alloc w1 (.cells #[.int .i64 8, .int .i64 6, .string S] 23)
  have p2 := p1.still A2
  have q2 := newA_ab w1 8 6 S
  have HS2 := hid ((HS0.out.trans h1).trans A2)
  clear p p1 h1 A2 HS0 HP
  obtain ⟨c0, c1, c2, cf⟩ := q2.cells
  obtain ⟨d0, d1, d2, df⟩ := p2.cells
  go_wp2_with fail
  (try simp only [Exit.inBlock, Exit.then])
  exact bodyPost_ret ((p2.set _ _ _).rest rfl _ _ rfl rfl) rfl ⟨rfl, setA_fr HS2.out _ _ _ _ (.inr (Nat.le_refl _))⟩
theorem astd_any (n : Int) (w : World) : Calls Try.prog 18 #[.int .i64 n] w fun e w' => e = .returned (.tuple #[ar (stdC n) (stdR n) (stdS n), .int .i64 (stdE n)]) ∧ Still w w' := by
  by_cases h0 : n = 0
  · subst h0; exact astd_0 w
  by_cases h1 : n = 1
  · subst h1; exact astd_1 w
  by_cases h2 : n = 2
  · subst h2; exact astd_2 w
  by_cases h3 : n = 3
  · subst h3; exact astd_3 w
  have := astd_no n (by omega) w
  rw [stdC, stdR, stdS, stdE, if_neg h0, if_neg h0, if_neg h0, if_neg h1, if_neg h1, if_neg h1, if_neg h2, if_neg h2, if_neg h2, if_neg h3, if_neg h3, if_neg h3, if_neg (by omega)]
  exact this
theorem std_chk (n : Int) (h : stdE n = 0) : ChkV (stdC n) (stdR n) (stdS n) 0 := by
  have hn : 0 ≤ n ∧ n ≤ 3 := by
    unfold stdE at h
    by_cases k : 0 ≤ n ∧ n ≤ 3
    · exact k
    · rw [if_neg k] at h; cases h
  rcases (show n = 0 ∨ n = 1 ∨ n = 2 ∨ n = 3 by omega) with rfl | rfl | rfl | rfl
  · exact std0_ok
  · exact std1_ok
  · exact std2_ok
  · exact std3_ok
end Go.Proofs.Ytnoaomocdmkigab
