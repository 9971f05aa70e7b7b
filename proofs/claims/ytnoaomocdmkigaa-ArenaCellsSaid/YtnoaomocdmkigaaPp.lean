/- The program's Parse. -/
import Derived.Test.YtnoaomocdmkigaaRd
import Derived.Test.YtnoaomocdmkigaaBh
namespace Go.Proofs.Ytnoaomocdmkigaa
open Go.RowKit
open Pu Gp Ap

theorem prs_pos : ∀ (f C R : Nat) (S t : ByteArray) (l : Nat), prs f C R S t = .inl l → 1 ≤ l ∧ l ≤ R + f + 1
  | 0, C, R, S, t, l, h => by
    rw [prs] at h
    cases h
    omega
  | f + 1, C, R, S, t, l, h => by
    rw [prs] at h
    split at h
    · cases h
    · split at h
      · have := prs_pos f _ (R + 1) _ _ l h
        omega
      · cases h
        omega
set_option maxHeartbeats 4000000 in
theorem parse_long (t : ByteArray) (h : 65536 < t.size) (hz : t.size ≤ 281474976710656) (w : World) :
    Calls Try.prog 21 #[.string t] w fun e w' => e = .returned (.tuple #[ar 0 0 ByteArray.empty, .int .i64 2, .int .i64 0]) ∧ Still w w' := by
  have p := newA_ab w 0 0 ByteArray.empty
  obtain ⟨c0, c1, c2, cf⟩ := p.cells
  have h' : (65536 : Int) < (t.size : Int) := by omega
  go_enter Try.func21, Try.ntmps21
  go_wp2_with fail
  exact bodyPost_ret (p.rest3 rfl _ _ _ rfl rfl rfl) rfl ⟨rfl, Still.alloc w _⟩
set_option maxHeartbeats 4000000 in
theorem parse_short (t : ByteArray) (h : t.size ≤ 65536) (w : World) :
    Calls Try.prog 21 #[.string t] w fun e w' => ∃ (C R : Int) (S : ByteArray) (v n : Int), e = .returned (.tuple #[ar C R S, .int .i64 v, .int .i64 n]) ∧ PrsT (prs 25 0 0 ByteArray.empty t) C R S v n ∧ Still w w' := by
  have HRD := hid (fun u => read_any t h u)
  obtain ⟨T, eT⟩ : ∃ T, prs 25 0 0 ByteArray.empty t = T := ⟨_, rfl⟩
  rw [eT] at HRD ⊢
  have HPOS := hid (fun l (h : T = .inl l) => prs_pos 25 0 0 ByteArray.empty t l (eT.trans h))
  clear eT
  have p := newA_ab w 0 0 ByteArray.empty
  have HS0 := hid (Still.alloc w (.cells #[.int .i64 0, .int .i64 0, .string ByteArray.empty] 24))
  have h' : (t.size : Int) ≤ 65536 := by omega
  go_enter Try.func21, Try.ntmps21
  go_wp2_with fail
  refine (HRD.out _).mono ?_
  rintro e w1 ⟨hv, h1⟩
  have p1 := p.still h1
  have HS1 := hid (HS0.out.trans h1)
  clear p HS0 h1 HRD
  rcases hv with ⟨l, hT, rfl⟩ | ⟨c, r, S, hT, rfl⟩
  · have HT := hid hT
    obtain ⟨l1, l2⟩ := HPOS.out l hT
    clear hT HPOS
    have A2 := Still.alloc w1 (.cells #[.int .i64 0, .int .i64 0, .string ByteArray.empty] 24)
    have p2 := p1.still A2
    have q2 := newA_ab w1 0 0 ByteArray.empty
    have HS2 := hid (HS1.out.trans A2)
    clear p1 HS1 A2
    obtain ⟨c0, c1, c2, cf⟩ := p2.cells
    have l3 : (0 : Int) < (l : Int) := by omega
    have l4 : (l : Int) ≤ 26 := by omega
    clear l1 l2
    go_wp2_with fail
    (try simp only [Exit.inBlock, Exit.then])
    exact bodyPost_ret ((p2.set 0 0 ByteArray.empty).rest3 rfl _ _ _ rfl rfl rfl) rfl ⟨0, 0, ByteArray.empty, 60, (l : Int), rfl, .inl ⟨l, HT.out, rfl, rfl, rfl, rfl, rfl⟩, setA_fr HS2.out _ _ _ _ (.inr (Nat.le_refl _))⟩
  · have HT := hid hT
    clear hT HPOS
    have A2 := Still.alloc w1 (.cells #[.int .i64 (c : Int), .int .i64 (r : Int), .string S] 24)
    have p2 := p1.still A2
    have q2 := newA_ab w1 (c : Int) (r : Int) S
    have HS2 := hid (HS1.out.trans A2)
    have HL := hid (block_lt p1)
    clear p1 HS1 A2
    obtain ⟨c0, c1, c2, cf⟩ := q2.cells
    go_wp2_with fail
    refine (mapcheck_any (c : Int) (r : Int) S _).mono ?_
    rintro e w3 ⟨v, rfl, hv, h3⟩
    have p3 := p2.still h3
    have q3 := q2.still h3
    have HS3 := hid (HS2.out.trans h3)
    have HV := hid hv
    clear p2 q2 HS2 h3 hv c0 c1 c2 cf
    obtain ⟨c0, c1, c2, cf⟩ := q3.cells
    obtain ⟨d0, d1, d2, df⟩ := p3.cells
    by_cases h0 : v = 0
    · subst h0
      go_wp2_with fail
      (try simp only [Exit.inBlock, Exit.then])
      exact bodyPost_ret ((p3.set _ _ _).rest3 rfl _ _ _ rfl rfl rfl) rfl ⟨(c : Int), (r : Int), S, 0, 0, rfl, .inr ⟨c, r, S, HT.out, HV.out, rfl, .inl ⟨rfl, rfl, rfl, rfl⟩⟩, setA_fr HS3.out _ _ _ _ (.inr (Nat.le_refl _))⟩
    · have hv' : (v != 0) = true := by simpa using h0
      have H0 := hid h0
      clear h0
      go_wp2_with fail
      (try simp only [Exit.inBlock, Exit.then])
      exact bodyPost_ret ((p3.set _ _ _).rest3 rfl _ _ _ rfl rfl rfl) rfl ⟨0, 0, ByteArray.empty, v, 0, rfl, .inr ⟨c, r, S, HT.out, HV.out, rfl, .inr ⟨H0.out, rfl, rfl, rfl⟩⟩, setA_fr HS3.out _ _ _ _ (.inr (Nat.le_refl _))⟩
theorem parse_any (t : ByteArray) (hz : t.size ≤ 281474976710656) (w : World) :
    Calls Try.prog 21 #[.string t] w fun e w' => ∃ (C R : Int) (S : ByteArray) (v n : Int), e = .returned (.tuple #[ar C R S, .int .i64 v, .int .i64 n]) ∧ PrsV t C R S v n ∧ Still w w' := by
  by_cases h : 65536 < t.size
  · refine (parse_long t h hz w).mono ?_
    rintro e w1 ⟨rfl, h1⟩
    exact ⟨0, 0, _, 2, 0, rfl, .inl ⟨h, rfl, rfl, rfl, rfl, rfl⟩, h1⟩
  · refine (parse_short t (by omega) w).mono ?_
    rintro e w1 ⟨C, R, S, v, n, rfl, hp, h1⟩
    exact ⟨C, R, S, v, n, rfl, .inr ⟨by omega, hp⟩, h1⟩
end Go.Proofs.Ytnoaomocdmkigaa
