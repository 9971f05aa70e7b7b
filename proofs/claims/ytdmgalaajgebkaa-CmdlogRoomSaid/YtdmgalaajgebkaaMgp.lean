/- CmdlogNests: the law's walk. -/
import Derived.Test.YtdmgalaajgebkaaMgo
namespace Go.Proofs.Ytdmgalaajgebkaa
open Go.RowKit
set_option maxRecDepth 100000

/-- what the rung ahead has missed -/
def ahL (S : List En) : Nat → List En
  | 0 => S.map cmE
  | k + 1 => misL (k : Int) S
theorem ah_sub (S : List En) (k : Nat) : ∀ x ∈ misL (k : Int) S, x ∈ ahL S k := by
  intro x hx
  unfold misL at hx
  obtain ⟨y, hy, rfl⟩ := List.mem_map.1 hx
  obtain ⟨h1, h2⟩ := List.mem_filter.1 hy
  cases k with
  | zero => exact List.mem_map_of_mem h1
  | succ k =>
    unfold ahL misL
    refine List.mem_map_of_mem (List.mem_filter.2 ⟨h1, ?_⟩)
    have := of_decide_eq_true h2
    exact decide_eq_true (by omega)
theorem mis_last {s : Lgs} (h : Lo s) {k : Nat} (hk : (k : Int) = s.nr - 1) : misL (k : Int) s.S = [] := by
  unfold misL
  rw [List.filter_eq_nil_iff.2 (fun x hx => ?_)]
  · rfl
  · have := h.ms x hx
    simp; omega
theorem misA_in {s : Lgs} {k : Nat} (h : (k : Int) < s.nr) : misA s (k : Int) = misL (k : Int) s.S := by
  unfold misA
  rw [if_pos (inR_t (by omega) h)]
theorem cm_map_next {S : List En} {k : Nat} (hk : k < S.length) : (S.take (k + 1)).map cmE = (S.take k).map cmE ++ [cmE (att S k)] := by
  rw [take_next hk, List.map_append]
  rfl
theorem owC_rd {w : World} {B n cap : Nat} {ao : Option Addr} {L : List En} (h : OwG KC cmT w B (.slice ao n cap) L) (hl : L.length ≤ 100000) : RdG KC w ao L.length L := OwG.rd (M := []) (by rw [List.append_nil]; exact h) (by omega)
set_option maxHeartbeats 8000000 in
theorem nests_law (a b : Int) (so : Option Addr) (n c : Nat) (L : List Ok9) (ha : -9223372036854775808 ≤ a ∧ a ≤ 9223372036854775807) (hb : -9223372036854775808 ≤ b ∧ b ≤ 9223372036854775807) (hp : ∀ i, i < n → Bd9 (L.getD i KO9.d)) (w : World) (hr : RdG KO9 w so n L) : Calls Try.prog 4 #[.int .i64 a, .int .i64 b, .slice so n c] w fun e w' => e = .returned (.bool true) ∧ Still w w' := by
  have HAw := hid (fun w => awake19_any w)
  have HPl := hid (fun u (hu : Still w u) => played_any a b so n c L ha hb hp u (hr.still hu))
  have h2 := pk_in b 4 (by omega)
  obtain ⟨A, eA⟩ : ∃ A, 2 + pk a 5 = A := ⟨_, rfl⟩
  obtain ⟨D, eD⟩ : ∃ A, 2 + pk b 4 = A := ⟨_, rfl⟩
  have hD : 2 ≤ D ∧ D ≤ 5 := by omega
  rw [eA, eD] at HPl
  obtain ⟨R, rfl⟩ : ∃ R : Nat, D = (R : Int) := ⟨D.toNat, by omega⟩
  clear hr hp ha hb eA eD h2
  go_enter Try.func4, Try.ntmps4
  go_wp2_with fail
  refine (HAw.out _).mono ?_
  rintro e w1 ⟨he, h1⟩
  rw [he]
  have HP1 := hid (HPl.out w1 h1)
  have HS1 := hid h1
  clear he h1 HAw HPl
  go_wp2_with fail
  refine HP1.out.mono ?_
  rintro e w2 ⟨p, he, hpl⟩
  rw [he]
  obtain ⟨hs2, s, vs, hL2, en1, en2⟩ := hpl
  have HS2 := hid (HS1.out.trans hs2)
  have HL2 := hid hL2
  have HE := hid en2
  have HAl := hid (cm_all s _ p vs w2 hL2)
  have hn := len_2016 hL2.ok
  clear he hs2 hL2 en1 en2 HP1 HS1
  go_wp2_with fail
  refine HAl.out.mono ?_
  rintro e w3 ⟨va, he, hoa, hs3⟩
  rw [he]
  have HS3 := hid (HS2.out.trans hs3)
  have HL3 := hid (HL2.out.still hs3)
  obtain ⟨ao, cap, eva, _⟩ := hoa.slice
  subst eva
  have HRa : Hid (RdG KE w3 ao s.S.length s.S) := hid (OwG.rd (M := []) (by rw [List.append_nil]; exact hoa) (by omega))
  obtain ⟨N, eN⟩ : ∃ N, s.S.length = N := ⟨_, rfl⟩
  have HN := hid eN
  rw [eN] at HRa hn ⊢
  clear he hoa hs3 HAl HS2 HL2 eN
  go_wp2_with fail
  go_loopw [13, 12] (fun u v wr => ∃ k : Nat, k ≤ N ∧ u = .int .i64 (k : Int) ∧ ∃ bo m bc, v = .slice bo m bc ∧ Hid (OwG KC cmT wr w3.heap.size (.slice bo m bc) ((s.S.take k).map cmE) ∧ Still w3 wr)) (fun u _ _ => N - (intOf u).toNat)
  case atStart => exact ⟨0, by omega, rfl, _, _, _, rfl, hid ⟨OwG.nil _ _, Fr.refl _ _⟩⟩
  case round =>
    obtain ⟨k, hk, rfl, bo, m, bc, rfl, HK⟩ := hrel
    by_cases hkn : k < N
    · have hlt : (k : Int) < (N : Int) := by omega
      obtain ⟨G, o, rfl⟩ := HRa.out.at (by omega)
      obtain ⟨c0, c1, c2, c3, c4, c5, c6, _⟩ := rdE (HRa.out.still HK.out.2) hkn
      have HT := hid (cm_map_next (S := s.S) (k := k) (by have := HN.out; omega))
      have HLn : Hid (((s.S.take k).map cmE).length ≤ 100000) := hid (by simp; omega)
      obtain ⟨x, ex⟩ : ∃ x, att s.S k = x := ⟨_, rfl⟩
      rw [ex] at c0 c1 c2 c3 c4 c5 c6 HT
      obtain ⟨M, eM⟩ : ∃ M, (s.S.take k).map cmE = M := ⟨_, rfl⟩
      rw [eM] at HT HLn HK
      have A4 := Still.alloc wr (.cells (hcs x) cmT)
      have HO4 := hid (HK.out.1.still A4)
      have HX4 : Hid ((wr.alloc (.cells (hcs x) cmT)).heap[wr.heap.size]? = some (.cells (KC.f (cmE x)).toArray cmT (0, 0))) := hid (heap_alloc_new wr _)
      have HS4 := hid (HK.out.2.trans A4)
      have HB4 := hid HS4.out.size
      clear A4 ex eM HK
      go_wp2_with (
        at_builtin
        refine wpList_appG KC _ rfl _ _ _ rfl rfl 56 infoC (by omega) w3.heap.size wr.heap.size (.slice bo m bc) M (cmE x) rfl rfl HO4.out HX4.out HLn.out HB4.out ?_
        intro v' w' ho' hf'
        have HK5 : Hid (OwG KC cmT w' w3.heap.size v' (M ++ [cmE x]) ∧ Still w3 w') := hid ⟨ho', still_appG HS4.out HO4.out hf' (Nat.le_refl _)⟩
        obtain ⟨bo5, bc5, e5, _⟩ := ho'.slice
        subst e5
        obtain ⟨m5, em5⟩ : ∃ m, (M ++ [cmE x]).length = m := ⟨_, rfl⟩
        rw [em5] at HK5 ⊢
        clear ho' hf' em5)
      clear c0 c1 c2 c3 c4 c5 c6
      go_roundw
      case rel => exact ⟨k + 1, by omega, by go_num, _, _, _, rfl, by rw [HT.out]; exact HK5⟩
      case measure => simp [intOf]; omega
    · have hge : ¬ (k : Int) < (N : Int) := by omega
      have HK2 : Hid (OwG KC cmT wr w3.heap.size (.slice bo m bc) (ahL s.S 0) ∧ Still w3 wr) := hid ⟨by have := HK.out.1; rwa [List.take_of_length_le (by have := HN.out; omega)] at this, HK.out.2⟩
      clear HK hkn HRa
      go_wp2_with fail
      go_loopw [15, 14] (fun u v wr => ∃ k : Nat, k ≤ R ∧ u = .int .i64 (k : Int) ∧ ∃ bo m bc, v = .slice bo m bc ∧ Hid (OwG KC cmT wr w3.heap.size (.slice bo m bc) (ahL s.S k) ∧ Still w3 wr)) (fun u _ _ => R - (intOf u).toNat)
      case atStart => exact ⟨0, by omega, rfl, _, _, _, rfl, HK2⟩
      case round =>
        obtain ⟨i, hi, rfl, bo2, m2, bc2, rfl, HI⟩ := hrel
        clear HK2
        by_cases hin : i < R
        · have hlti : (i : Int) < (R : Int) := by omega
          have HM := hid (cm_missed s _ p vs (i : Int) wr (HL3.out.still HI.out.2))
          rw [misA_in (by rw [HE.out]; exact hlti)] at HM
          have HSub := hid (ah_sub s.S i)
          have HLa : Hid (i + 1 = R → misL (i : Int) s.S = []) := hid (fun h => mis_last HL3.out.ok (by rw [HE.out]; omega))
          have HLen : Hid ((ahL s.S i).length ≤ 100000 ∧ (misL (i : Int) s.S).length ≤ 100000) := hid ⟨by
            cases i with
            | zero => show (s.S.map cmE).length ≤ _; have := HN.out; simp; omega
            | succ j => show (misL (j : Int) s.S).length ≤ _; have h1 := misL_len (j : Int) s.S s.S.length; rw [List.take_of_length_le (Nat.le_refl _)] at h1; have := HN.out; omega, by
            have h1 := misL_len (i : Int) s.S s.S.length; rw [List.take_of_length_le (Nat.le_refl _)] at h1; have := HN.out; omega⟩
          have HA1 : Hid (ahL s.S (i + 1) = misL (i : Int) s.S) := hid rfl
          obtain ⟨X, eX⟩ : ∃ X, misL (i : Int) s.S = X := ⟨_, rfl⟩
          obtain ⟨Y, eY⟩ : ∃ Y, ahL s.S i = Y := ⟨_, rfl⟩
          rw [eX] at HM HSub HLa HLen HA1
          rw [eY] at HSub HLen HI
          clear eX eY
          go_wp2_with fail
          refine HM.out.mono ?_
          rintro e w4 ⟨v4, he, ho4, hs4⟩
          rw [he]
          obtain ⟨ao4, cap4, ev4, _⟩ := ho4.slice
          subst ev4
          have hoY := HI.out.1.still hs4
          have hmY : Y.length = m2 := by
            obtain ⟨_, _, e5, _⟩ := hoY.slice
            injection e5 with _ e6 _
            exact e6.symm
          have HPt := hid (rpart_t X Y ao4 bo2 X.length m2 cap4 bc2 HSub.out w4 (owC_rd ho4 HLen.out.2) (by rw [← hmY]; exact owC_rd hoY HLen.out.1))
          have HO4 := hid (ho4.less HI.out.2.size)
          have HS4 := hid (HI.out.2.trans hs4)
          obtain ⟨x4, ex4⟩ : ∃ x, X.length = x := ⟨_, rfl⟩
          have HX4 := hid ex4
          have HX100 : Hid (x4 ≤ 100000) := hid (by rw [← ex4]; exact HLen.out.2)
          rw [ex4] at HPt HO4 ⊢
          clear he ho4 hs4 hoY hmY HM HI ex4
          go_wp2_with fail
          refine HPt.out.mono ?_
          rintro e w5 ⟨he, hs5⟩
          rw [he]
          have HO5 : Hid (OwG KC cmT w5 w3.heap.size (.slice ao4 x4 cap4) (ahL s.S (i + 1)) ∧ Still w3 w5) := hid ⟨by rw [HA1.out]; exact HO4.out.still hs5, HS4.out.trans hs5⟩
          clear he hs5 HPt HO4 HS4
          have hwR : IntKind.i64.wrap ((R : Int) - 1) = (R : Int) - 1 := by rw [IntKind.wrap_i64]; omega
          by_cases hlast : i + 1 = R
          · have d1 : ((i : Int) == (R : Int) - 1) = true := beq_iff_eq.2 (by omega)
            have hx0 : x4 = 0 := by rw [← HX4.out, HLa.out hlast]; rfl
            subst hx0
            clear hlast
            go_wp2_with fail
            go_roundw
            case rel => exact ⟨i + 1, by omega, by go_num, _, _, _, rfl, HO5⟩
            case measure => simp [intOf]; omega
          · have d1 : ((i : Int) == (R : Int) - 1) = false := beq_eq_false_iff_ne.2 (by omega)
            clear hlast
            go_wp2_with fail
            go_roundw
            case rel => exact ⟨i + 1, by omega, by go_num, _, _, _, rfl, HO5⟩
            case measure => simp [intOf]; omega
        · have hgei : ¬ (i : Int) < (R : Int) := by omega
          have HF := hid (HS3.out.trans HI.out.2)
          clear HI
          go_wp2_with fail
          go_ret
          exact ⟨rfl, HF.out⟩
end Go.Proofs.Ytdmgalaajgebkaa
