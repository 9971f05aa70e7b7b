/- Maps out of texts: the document's Parse. -/
import Derived.Test.YtnoaomocdmkigaaPr
namespace Go.Proofs.Ytnoaomocdmkigaa
open Go.RowKit
open Pu Gp Ap

/-- the first line of a text, without its end -/
def linB (t : ByteArray) : ByteArray := if fnd t 10 0 < 0 then t else t.extract 0 (fnd t 10 0).toNat
/-- may it be the next line, behind R lines of C signs -/
def linOk (C R : Nat) (t : ByteArray) : Bool :=
  decide (0 ≤ fnd t 10 0) && (sgnsB (linB t) (linB t).size && ((if R = 0 then decide (3 ≤ (linB t).size) && decide ((linB t).size ≤ 32) else decide ((linB t).size = C)) && decide (R ≠ 24)))
/-- the lines of a text: the line that may not be, or the map -/
def prs : Nat → Nat → Nat → ByteArray → ByteArray → Sum Nat (Nat × Nat × ByteArray)
  | 0, _, R, _, _ => .inl (R + 1)
  | f + 1, C, R, S, t =>
    if R ≠ 0 ∧ t.size = 0 then .inr (C, R, S)
    else if linOk C R t then prs f (linB t).size (R + 1) (S ++ linB t) (t.extract ((linB t).size + 1) t.size)
    else .inl (R + 1)
set_option maxHeartbeats 4000000 in
theorem rparse_long (t : ByteArray) (h : 65536 < t.size) (hz : t.size ≤ 281474976710656) (w : World) :
    Calls Try.prog 22 #[.string t] w fun e w' => e = .returned (.tuple #[ar 0 0 ByteArray.empty, .int .i64 2, .int .i64 0]) ∧ Still w w' := by
  have p := newA_ab w 0 0 ByteArray.empty
  go_enter Try.func22, Try.ntmps22
  go_wp2_with fail
  exact bodyPost_ret (p.rest3 rfl _ _ _ rfl rfl rfl) rfl ⟨rfl, Still.alloc w _⟩
theorem not_nil {t : ByteArray} (h : t.size ≠ 0) : (!t.toList.isEmpty) = true := by
  rw [Lib.toList_data]
  cases e : t.data.toList with
  | nil =>
    have : t.data.toList.length = 0 := by rw [e]; rfl
    rw [Array.length_toList] at this
    exact absurd this h
  | cons a l => rfl
theorem Ab.drew {w : World} {b : Nat} {C R : Int} {s : ByteArray} (h : Ab w b C R s) : Ab w.drew b C R s := h
def strN : Value → Nat
  | .string s => s.size
  | _ => 0
theorem setA_ab {w : World} {b g : Nat} {C R : Int} {s : ByteArray} (h : Ab w b C R s) (hb : b ≠ g) (C' R' : Int) (s' : ByteArray) : Ab (setA w g C' R' s') b C R s := by
  unfold Ab
  rw [heap_setCell_other _ _ _ _ hb, heap_setCell_other _ _ _ _ hb, heap_setCell_other _ _ _ _ hb]
  exact h
theorem lin_sz (t : ByteArray) : (linB t).size ≤ t.size ∧ (0 ≤ fnd t 10 0 → (linB t).size + 1 ≤ t.size) := by
  unfold linB
  rcases fnd_spec t 10 0 (by omega) with ⟨e, _⟩ | ⟨k, e, _, h2, _⟩
  · rw [e, if_pos (by omega)]
    exact ⟨Nat.le_refl _, fun h => by omega⟩
  · rw [e, if_neg (by omega)]
    simp only [Int.toNat_natCast, ByteArray.size_extract]
    exact ⟨by omega, fun _ => by omega⟩
theorem rrow_any (t : ByteArray) (hz : t.size ≤ 281474976710656) (w : World) : Calls Try.prog 43 #[.string t] w fun e w' => e = .returned (.tuple #[.string (linB t), .bool (decide (0 ≤ fnd t 10 0))]) ∧ w' = w := by
  unfold linB
  rcases fnd_spec t 10 0 (by omega) with ⟨e, _⟩ | ⟨k, e, _, h2, _⟩
  · have := rrow_no t hz e w
    rw [e, if_pos (by omega)]
    exact this
  · have := rrow_yes t hz k e h2 w
    rw [e, if_neg (by omega), decide_eq_true (show (0 : Int) ≤ (k : Int) by omega)]
    simp only [Int.toNat_natCast]
    exact this
/-- is the next line too short, or too long -/
def lonB (C R : Nat) (n : Nat) : Bool := if R = 0 then decide (n < 3) || decide (32 < n) else decide (n ≠ C)
theorem lin_is (C R : Nat) (t : ByteArray) : linOk C R t = (decide (0 ≤ fnd t 10 0) && (sgnsB (linB t) (linB t).size && (!lonB C R (linB t).size && decide (R ≠ 24)))) := by
  unfold linOk lonB
  split
  · congr 3
    rw [Bool.not_or, ← decide_not, ← decide_not]
    congr 1 <;> exact decide_eq_decide.mpr (by omega)
  · congr 3
    rw [← decide_not]
    exact decide_eq_decide.mpr (by omega)
theorem lon_ways (C R n : Nat) : (R = 0 ∧ n < 3 ∧ lonB C R n = true) ∨ (R = 0 ∧ 3 ≤ n ∧ 32 < n ∧ lonB C R n = true) ∨ (R = 0 ∧ 3 ≤ n ∧ n ≤ 32 ∧ lonB C R n = false) ∨ (R ≠ 0 ∧ n = C ∧ lonB C R n = false) ∨ (R ≠ 0 ∧ n ≠ C ∧ lonB C R n = true) := by
  unfold lonB
  by_cases h : R = 0
  · rw [if_pos h]
    by_cases h1 : n < 3
    · exact .inl ⟨h, h1, by simp [h1]⟩
    · by_cases h2 : 32 < n
      · exact .inr (.inl ⟨h, by omega, h2, by simp [h2]⟩)
      · exact .inr (.inr (.inl ⟨h, by omega, by omega, by simp [h1, h2]⟩))
  · rw [if_neg h]
    by_cases h1 : n = C
    · exact .inr (.inr (.inr (.inl ⟨h, h1, by simp [h1]⟩)))
    · exact .inr (.inr (.inr (.inr ⟨h, h1, by simp [h1]⟩)))
/-- what Parse answers of lines that gave T -/
def PrsT (T : Sum Nat (Nat × Nat × ByteArray)) (C R : Int) (S : ByteArray) (e n : Int) : Prop :=
  (∃ l : Nat, T = .inl l ∧ C = 0 ∧ R = 0 ∧ S = ByteArray.empty ∧ e = 60 ∧ n = (l : Int)) ∨
  (∃ (c r : Nat) (s : ByteArray), T = .inr (c, r, s) ∧ ChkV (c : Int) (r : Int) s e ∧ n = 0 ∧ ((e = 0 ∧ C = c ∧ R = r ∧ S = s) ∨ (e ≠ 0 ∧ C = 0 ∧ R = 0 ∧ S = ByteArray.empty)))
set_option maxHeartbeats 16000000 in
set_option maxRecDepth 100000 in
theorem rparse_short (t0 : ByteArray) (h : t0.size ≤ 65536) (w : World) :
    Calls Try.prog 22 #[.string t0] w fun e w' => ∃ (C R : Int) (S : ByteArray) (v n : Int), e = .returned (.tuple #[ar C R S, .int .i64 v, .int .i64 n]) ∧ PrsT (prs 25 0 0 ByteArray.empty t0) C R S v n ∧ Still w w' := by
  obtain ⟨T, eT⟩ : ∃ T, prs 25 0 0 ByteArray.empty t0 = T := ⟨_, rfl⟩
  rw [eT]
  have HT := hid eT
  clear eT
  have HP := hid (And.intro ((newA_ab w 0 0 ByteArray.empty).still (Still.alloc _ (.cells #[.int .i64 0, .int .i64 0, .string ByteArray.empty] 24))) (newA_ab (newA w 0 0 ByteArray.empty) 0 0 ByteArray.empty))
  have HS := hid ((Still.alloc w (.cells #[.int .i64 0, .int .i64 0, .string ByteArray.empty] 24)).trans (Still.alloc (newA w 0 0 ByteArray.empty) (.cells #[.int .i64 0, .int .i64 0, .string ByteArray.empty] 24)))
  have hsz : (newA w 0 0 ByteArray.empty).heap.size = w.heap.size + 1 := size_alloc _ _
  rw [hsz] at HP
  clear hsz
  go_enter Try.func22, Try.ntmps22
  go_wp2_with fail
  go_loopw [0] (fun v wr => ∃ (C R : Nat) (S t : ByteArray), v = .string t ∧ R ≤ 24 ∧ S.size + t.size ≤ 65536 ∧ Ab wr w.heap.size 0 0 ByteArray.empty ∧ Ab wr (w.heap.size + 1) (C : Int) (R : Int) S ∧ prs (25 - R) C R S t = T ∧ Still w wr) (fun v _ => strN v)
  case atStart => exact ⟨0, 0, ByteArray.empty, t0, rfl, by omega, by simp; omega, HP.out.1, HP.out.2, HT.out, HS.out⟩
  case round =>
    obtain ⟨C, R, S, t, rfl, hR, hz, a0, a1, hT, hs⟩ := hrel
    clear HT HP HS
    have HS := hid hs
    have HT := hid hT
    clear hs hT
    obtain ⟨c0, c1, c2, cf⟩ := a1.cells
    obtain ⟨d0, d1, d2, df⟩ := a0.cells
    by_cases hend : R ≠ 0 ∧ t.size = 0
    · obtain ⟨hR0, ht⟩ := hend
      obtain rfl : t = ⟨#[]⟩ := by
        apply ByteArray.ext
        exact Array.eq_empty_of_size_eq_zero ht
      have HX := hid (show T = .inr (C, R, S) by
        rw [← HT.out, show 25 - R = (24 - R) + 1 by omega, prs, if_pos ⟨hR0, ht⟩])
      have r0 : ((R : Int) == 0) = false := by simp; omega
      clear ht HT
      have sz : S.size ≤ 281474976710656 := by omega
      have HB := hid (show w.heap.size + 1 ≠ w.heap.size by omega)
      go_wp2_with fail
      refine (rmapcheck_any C R S sz _).mono ?_
      rintro e w1 ⟨v, rfl, hv, h1⟩
      have b0 := a0.still h1
      have b1 := a1.still h1
      have HS1 := hid (HS.out.trans h1)
      clear a0 a1 HS h1 c0 c1 c2 cf d0 d1 d2 df
      obtain ⟨c0, c1, c2, cf⟩ := b1.cells
      obtain ⟨d0, d1, d2, df⟩ := b0.cells
      have HV := hid hv
      by_cases h0 : v = 0
      · subst h0
        clear hv
        go_wp2_with fail
        exact bodyPost_ret ((b0.set _ _ _).rest3 rfl _ _ _ rfl rfl rfl) rfl ⟨C, R, S, 0, 0, rfl, .inr ⟨C, R, S, HX.out, HV.out, rfl, .inl ⟨rfl, rfl, rfl, rfl⟩⟩, setA_fr HS1.out _ _ _ _ (.inr (Nat.le_refl _))⟩
      · have hv' : (v != 0) = true := by simpa using h0
        have H0 := hid h0
        clear hv h0
        go_wp2_with fail
        exact bodyPost_ret ((b0.set _ _ _).rest3 rfl _ _ _ rfl rfl rfl) rfl ⟨0, 0, ByteArray.empty, v, 0, rfl, .inr ⟨C, R, S, HX.out, HV.out, rfl, .inr ⟨H0.out, rfl, rfl, rfl⟩⟩, setA_fr HS1.out _ _ _ _ (.inr (Nat.le_refl _))⟩
    · obtain ⟨L, eL⟩ : ∃ L, linB t = L := ⟨_, rfl⟩
      obtain ⟨be, eb⟩ : ∃ b, decide (0 ≤ fnd t 10 0) = b := ⟨_, rfl⟩
      obtain ⟨bk, ek⟩ : ∃ b, sgnsB L L.size = b := ⟨_, rfl⟩
      have hl := lin_sz t
      have hlen : L.size ≤ t.size := by rw [← eL]; exact hl.1
      have hlen2 : be = true → L.size + 1 ≤ t.size := fun h => by rw [← eL]; exact hl.2 (of_decide_eq_true (eb.trans h))
      have HR : Hid (∀ u : World, Calls Try.prog 43 #[.string t] u fun e w' => e = .returned (.tuple #[.string L, .bool be]) ∧ w' = u) := hid (fun u => by
        have k := rrow_any t (by omega) u
        rw [eL, eb] at k
        exact k)
      have HK : Hid (∀ u : World, Calls Try.prog 44 #[.string L] u fun e w' => e = .returned (.bool bk) ∧ w' = u) := hid (fun u => by
        have k := rsigns_any L (by omega) u
        rw [ek] at k
        exact k)
      have hok := lin_is C R t
      rw [eL, eb, ek] at hok
      have HX := hid (show T = if linOk C R t then prs (24 - R) L.size (R + 1) (S ++ L) (t.extract (L.size + 1) t.size) else .inl (R + 1) by
        rw [← HT.out, show 25 - R = (24 - R) + 1 by omega, prs, if_neg hend, eL])
      clear HT hl
      have hno : R = 0 ∨ (R ≠ 0 ∧ t.size ≠ 0) := by omega
      have HO := hid hok
      have HE := hid (And.intro eL eb)
      clear hok eL eb ek hend
      by_cases r0 : R = 0
      · have r1 : ((R : Int) == 0) = true := beq_iff_eq.mpr (by omega)
        clear hno
        go_wp2_with (first | (go_at_call 43; refine (HR.out _).mono ?_; rintro e w' ⟨he, hw⟩; rw [he, hw]; clear he hw w') | (go_at_call 44; refine (HK.out _).mono ?_; rintro e w' ⟨he, hw⟩; rw [he, hw]; clear he hw w'))
        · have hb : be = true := by assumption
          have hk : bk = true := by assumption
          have hlo : lonB C R L.size = false := by
            unfold lonB
            rw [if_pos r0, decide_eq_false (by omega), decide_eq_false (by omega)]
            rfl
          have h24 : R ≠ 24 := by omega
          have hy : linOk C R t = true := by rw [HO.out, hb, hk, hlo, decide_eq_true h24]; rfl
          have HN := hid (HX.out.trans (if_pos hy))
          have hl := hlen2 hb
          clear HO HX hy hlo
          refine ⟨⟨L.size, R + 1, S ++ L, t.extract (L.size + 1) t.size, ?_, by omega, ?_, setA_ab a0 (by omega) _ _ _, ?_, ?_, setA_fr HS.out _ _ _ _ (.inr (by omega))⟩, ?_⟩
          · rfl
          · rw [ByteArray.size_append, ByteArray.size_extract]; omega
          · have := a1.set (L.size : Int) ((R + 1 : Nat) : Int) (S ++ L)
            rw [r0] at this ⊢
            exact this
          · rw [HN.out, show 25 - (R + 1) = 24 - R by omega]
          · simp only [strN, ByteArray.size_extract]; omega
        all_goals first
          | (exfalso; have hl := hlen2 (by assumption); omega)
          | (have HN := hid (HX.out.trans (if_pos (by rw [HO.out]; unfold lonB; simp_all; done)))
             (try subst r0)
             refine ⟨⟨_, R + 1, S ++ L, _, rfl, by omega, ?_, setA_ab a0 (by omega) _ _ _, a1.set _ _ _, ?_, setA_fr HS.out _ _ _ _ (.inr (by omega))⟩, ?_⟩
             · rw [ByteArray.size_append, ByteArray.size_extract]; omega
             · rw [HN.out, show 25 - (R + 1) = 24 - R by omega]
               first | rfl | (congr 1; omega)
             · simp only [strN, ByteArray.size_extract]; omega)
          | (have HN := hid (HX.out.trans (if_neg (by rw [HO.out]; unfold lonB; simp_all; try omega)))
             go_region
             go_wp2_with fail
             (try simp only [Exit.inBlock, Exit.then])
             first
             | exact bodyPost_ret (((a0.set _ _ _).drew).rest3 rfl _ _ _ rfl rfl rfl) rfl ⟨0, 0, ByteArray.empty, 60, (R : Int) + 1, rfl, .inl ⟨R + 1, HN.out, rfl, rfl, rfl, rfl, by omega⟩, (setA_fr HS.out _ _ _ _ (.inr (Nat.le_refl _))).drew⟩
             | exact bodyPost_ret (((a0.set _ _ _).drew).rest3 rfl _ _ _ rfl rfl rfl) rfl ⟨0, 0, ByteArray.empty, 60, 1, rfl, .inl ⟨R + 1, HN.out, rfl, rfl, rfl, rfl, by omega⟩, (setA_fr HS.out _ _ _ _ (.inr (Nat.le_refl _))).drew⟩
             | exact bodyPost_ret (((a0.set _ _ _).drew).rest3 rfl _ _ _ rfl rfl rfl) rfl ⟨0, 0, ByteArray.empty, 60, 25, rfl, .inl ⟨R + 1, HN.out, rfl, rfl, rfl, rfl, by omega⟩, (setA_fr HS.out _ _ _ _ (.inr (Nat.le_refl _))).drew⟩)
      · have r1 : ((R : Int) == 0) = false := beq_false_of_ne (by omega)
        have hno' := not_nil (t := t) (by omega)
        clear hno
        go_wp2_with (first | (go_at_call 43; refine (HR.out _).mono ?_; rintro e w' ⟨he, hw⟩; rw [he, hw]; clear he hw w') | (go_at_call 44; refine (HK.out _).mono ?_; rintro e w' ⟨he, hw⟩; rw [he, hw]; clear he hw w'))
        all_goals first
          | (exfalso; have hl := hlen2 (by assumption); omega)
          | (have hb : be = true := by assumption
             have hk : bk = true := by assumption
             have hlo : lonB C R L.size = false := by
               unfold lonB
               rw [if_neg r0]
               exact decide_eq_false (by omega)
             have h24 : R ≠ 24 := by first | omega | (intro h; simp_all; done)
             have hy : linOk C R t = true := by rw [HO.out, hb, hk, hlo, decide_eq_true h24]; rfl
             have HN := hid (HX.out.trans (if_pos hy))
             have hl := hlen2 hb
             clear HO HX hy hlo
             refine ⟨⟨L.size, R + 1, S ++ L, t.extract (L.size + 1) t.size, ?_, by omega, ?_, setA_ab a0 (by omega) _ _ _, ?_, ?_, setA_fr HS.out _ _ _ _ (.inr (by omega))⟩, ?_⟩
             · rw [show L.size = C by omega]
             · rw [ByteArray.size_append, ByteArray.size_extract]; omega
             · have := a1.set (L.size : Int) ((R + 1 : Nat) : Int) (S ++ L)
               rw [show (C : Int) = (L.size : Int) by omega]
               exact this
             · rw [HN.out, show 25 - (R + 1) = 24 - R by omega]
             · simp only [strN, ByteArray.size_extract]; omega)
          | (have HN := hid (HX.out.trans (if_neg (by rw [HO.out]; unfold lonB; simp_all; try omega)))
             go_region
             go_wp2_with fail
             (try simp only [Exit.inBlock, Exit.then])
             first
             | exact bodyPost_ret (((a0.set _ _ _).drew).rest3 rfl _ _ _ rfl rfl rfl) rfl ⟨0, 0, ByteArray.empty, 60, (R : Int) + 1, rfl, .inl ⟨R + 1, HN.out, rfl, rfl, rfl, rfl, by omega⟩, (setA_fr HS.out _ _ _ _ (.inr (Nat.le_refl _))).drew⟩
             | exact bodyPost_ret (((a0.set _ _ _).drew).rest3 rfl _ _ _ rfl rfl rfl) rfl ⟨0, 0, ByteArray.empty, 60, 1, rfl, .inl ⟨R + 1, HN.out, rfl, rfl, rfl, rfl, by omega⟩, (setA_fr HS.out _ _ _ _ (.inr (Nat.le_refl _))).drew⟩
             | exact bodyPost_ret (((a0.set _ _ _).drew).rest3 rfl _ _ _ rfl rfl rfl) rfl ⟨0, 0, ByteArray.empty, 60, 25, rfl, .inl ⟨R + 1, HN.out, rfl, rfl, rfl, rfl, by omega⟩, (setA_fr HS.out _ _ _ _ (.inr (Nat.le_refl _))).drew⟩)
/-- what Parse answers -/
def PrsV (t : ByteArray) (C R : Int) (S : ByteArray) (v n : Int) : Prop :=
  (65536 < t.size ∧ C = 0 ∧ R = 0 ∧ S = ByteArray.empty ∧ v = 2 ∧ n = 0) ∨ (t.size ≤ 65536 ∧ PrsT (prs 25 0 0 ByteArray.empty t) C R S v n)
theorem rparse_any (t : ByteArray) (hz : t.size ≤ 281474976710656) (w : World) :
    Calls Try.prog 22 #[.string t] w fun e w' => ∃ (C R : Int) (S : ByteArray) (v n : Int), e = .returned (.tuple #[ar C R S, .int .i64 v, .int .i64 n]) ∧ PrsV t C R S v n ∧ Still w w' := by
  by_cases h : 65536 < t.size
  · refine (rparse_long t h hz w).mono ?_
    rintro e w1 ⟨rfl, h1⟩
    exact ⟨0, 0, _, 2, 0, rfl, .inl ⟨h, rfl, rfl, rfl, rfl, rfl⟩, h1⟩
  · refine (rparse_short t (by omega) w).mono ?_
    rintro e w1 ⟨C, R, S, v, n, rfl, hp, h1⟩
    exact ⟨C, R, S, v, n, rfl, .inr ⟨by omega, hp⟩, h1⟩
theorem prsT_one {T : Sum Nat (Nat × Nat × ByteArray)} {C R C' R' : Int} {S S' : ByteArray} {v n v' n' : Int} (h : PrsT T C R S v n) (k : PrsT T C' R' S' v' n') : C = C' ∧ R = R' ∧ S = S' ∧ v = v' ∧ n = n' := by
  rcases h with ⟨l, h0, rfl, rfl, rfl, rfl, rfl⟩ | ⟨c, r, s, h0, h1, rfl, h2⟩ <;> rcases k with ⟨l', k0, rfl, rfl, rfl, rfl, rfl⟩ | ⟨c', r', s', k0, k1, rfl, k2⟩
  · rw [h0] at k0
    cases k0
    exact ⟨rfl, rfl, rfl, rfl, rfl⟩
  · rw [h0] at k0; cases k0
  · rw [h0] at k0; cases k0
  · rw [h0] at k0
    cases k0
    have e := chkV_one h1 k1
    subst e
    rcases h2 with ⟨e1, rfl, rfl, rfl⟩ | ⟨e1, rfl, rfl, rfl⟩ <;> rcases k2 with ⟨e2, rfl, rfl, rfl⟩ | ⟨e2, rfl, rfl, rfl⟩
    · exact ⟨rfl, rfl, rfl, rfl, rfl⟩
    · exact absurd e1 e2
    · exact absurd e2 e1
    · exact ⟨rfl, rfl, rfl, rfl, rfl⟩
theorem prsV_one {t : ByteArray} {C R C' R' : Int} {S S' : ByteArray} {v n v' n' : Int} (h : PrsV t C R S v n) (k : PrsV t C' R' S' v' n') : C = C' ∧ R = R' ∧ S = S' ∧ v = v' ∧ n = n' := by
  rcases h with ⟨h0, rfl, rfl, rfl, rfl, rfl⟩ | ⟨h0, h⟩ <;> rcases k with ⟨k0, rfl, rfl, rfl, rfl, rfl⟩ | ⟨k0, k⟩
  · exact ⟨rfl, rfl, rfl, rfl, rfl⟩
  · omega
  · omega
  · exact prsT_one h k
end Go.Proofs.Ytnoaomocdmkigaa
