/- Contracts: the number; how it is taken; what lies within. -/
import Derived.Test.YtbadpcdlhgbegaaDoorTb
import Derived.Laws.BitsLemmas
namespace Go.Proofs.YtbadpcdlhgbegaaDoor
open Go.RowKit

/-- the number of a seed, a frame and a use -/
def atI (s f u : Int) : Int := chainI (chainI s (IntKind.u64.wrap f)) (IntKind.u64.wrap u)
theorem at_in (s f u : Int) : 0 ≤ atI s f u ∧ atI s f u < 18446744073709551616 := chain_in _ _
set_option maxRecDepth 100000 in
theorem at_any (s f u : Int) (w : World) (ht : Tab w) : Calls Tryd.prog 16 #[.int .u64 s, .int .i64 f, .int .i64 u] w fun e w' => e = .returned (.int .u64 (atI s f u)) ∧ Still w w' := by
  go_enter Tryd.func16, Tryd.ntmps16
  go_wp2_with fail
  refine (chain_still _ _ _ ht).mono ?_
  rintro e w1 ⟨rfl, h1⟩
  go_wp2_with fail
  refine (chain_still _ _ _ (ht.still h1)).mono ?_
  rintro e w2 ⟨rfl, h2⟩
  go_wp2_with fail
  go_ret
  exact ⟨rfl, h1.trans h2⟩
set_option maxRecDepth 100000 in
theorem rat_any (s f u : Int) (w : World) : Calls Tryd.prog 17 #[.int .u64 s, .int .i64 f, .int .i64 u] w fun e w' => e = .returned (.int .u64 (atI s f u)) ∧ w' = w := by
  go_enter Tryd.func17, Tryd.ntmps17
  go_wp2_with fail
  refine (rchain_any _ _ (wrap_in f).1 (wrap_in f).2 _).mono ?_
  rintro e w1 ⟨rfl, rfl⟩
  go_wp2_with fail
  refine (rchain_any _ _ (wrap_in u).1 (wrap_in u).2 _).mono ?_
  rintro e w2 ⟨rfl, rfl⟩
  go_wp2_with fail
  go_ret
  exact ⟨rfl, rfl⟩
/-- v is how the number n is taken -/
def Tk (w : World) (v : Value) (n : Int) : Prop := ∃ b, v = .func (.func 34) #[] #[.pointer (some ⟨b, 0, none⟩)] ∧ w.cell? ⟨b, 0, none⟩ = some (.int .u64 n)
theorem Tk.on {F : Nat → Prop} {w w' : World} {v : Value} {n : Int} (h : Tk w v n) (hf : Fr F w w') (hn : ∀ k, k < w.heap.size → ¬ F k) : Tk w' v n := by
  obtain ⟨b, rfl, hc⟩ := h
  exact ⟨b, rfl, cell_on hf hc (hn _ (World.block_lt_of_cell? w _ hc))⟩
theorem Tk.still {w w' : World} {v : Value} {n : Int} (h : Tk w v n) (hf : Still w w') : Tk w' v n := h.on hf fun _ _ e => e
set_option maxRecDepth 100000 in
theorem takes_any (n : Int) (w : World) : Calls Tryd.prog 25 #[.int .u64 n] w fun e w' => ∃ v, e = .returned v ∧ Tk w' v n ∧ Still w w' := by
  have hmf : ∀ (fn : Fn) (first cap : Array Value) (w : World), (Instr.makeFunc fn first cap).run Tryd.prog w = .ok (.func fn first cap) w := fun _ _ _ _ => rfl
  go_enter Tryd.func25, Tryd.ntmps25
  go_wp2
  go_ret
  refine ⟨_, rfl, ⟨_, rfl, ?_⟩, Still.alloc w _⟩
  rw [cell_of_row _ _ _ _ _ _ (heap_alloc_new w _)]
  rfl
theorem mod_in {n m : Int} (h0 : 0 ≤ n) (hm : 0 < m) : 0 ≤ n % m ∧ n % m < m ∧ n % m ≤ n := by
  have a0 : 0 ≤ n % m := Int.emod_nonneg _ (by omega)
  have a2 : n % m < m := Int.emod_lt_of_pos _ hm
  have h1 := Int.emod_add_mul_ediv n m
  have h2 : 0 ≤ m * (n / m) := Int.mul_nonneg (by omega) (Int.ediv_nonneg h0 (by omega))
  omega
set_option maxRecDepth 100000 in
theorem take_any (n m : Int) (h0 : 0 ≤ n) (hm : 0 < m) (b : Nat) (w : World) (hc : w.cell? ⟨b, 0, none⟩ = some (.int .u64 n)) :
    Calls Tryd.prog 34 #[.int .u64 m, .pointer (some ⟨b, 0, none⟩)] w fun e w' => e = .returned (.int .u64 (n % m)) ∧ w' = w := by
  have H := Lib.hid (Int.tmod_eq_emod_of_nonneg (b := m) h0)
  have hm' : (m == 0) = false := by simp; omega
  clear h0
  go_enter Tryd.func34, Tryd.ntmps34
  go_wp2
  go_ret
  rw [← H.out]
  exact ⟨rfl, rfl⟩
/-- how many lie from l to h, as the program counts them -/
theorem many_eq {l h : Int} (hl : -9223372036854775808 ≤ l) (hh : h ≤ 9223372036854775807) (hlh : l ≤ h) (hn : ¬ (l = -9223372036854775808 ∧ h = 9223372036854775807)) :
    IntKind.u64.wrap (IntKind.u64.wrap (IntKind.u64.wrap h - IntKind.u64.wrap l) + 1) = h - l + 1 := by
  simp only [IntKind.wrap_u64]
  omega
theorem back_eq {l r : Int} (hl : -9223372036854775808 ≤ l) (h0 : 0 ≤ r) (h1 : l + r ≤ 9223372036854775807) : wrap64 (IntKind.u64.wrap (IntKind.u64.wrap l + r)) = l + r := by
  unfold wrap64
  rw [IntKind.wrap_u64, IntKind.wrap_u64]
  omega
set_option maxRecDepth 100000 in
theorem within_any (l h n : Int) (v : Value) (hl : -9223372036854775808 ≤ l) (hh : h ≤ 9223372036854775807) (hlh : l ≤ h) (hn : ¬ (l = -9223372036854775808 ∧ h = 9223372036854775807)) (n0 : 0 ≤ n) (w : World) (ht : Tk w v n) :
    Calls Tryd.prog 24 #[.int .i64 l, .int .i64 h, v] w fun e w' => e = .returned (.int .i64 (l + n % (h - l + 1))) ∧ w' = w := by
  obtain ⟨b, rfl, hc⟩ := ht
  have HM := Lib.hid (many_eq hl hh hlh hn)
  have hr := mod_in (m := h - l + 1) n0 (by omega)
  have HB := Lib.hid (back_eq (r := n % (h - l + 1)) hl hr.1 (by omega))
  have HP := Lib.hid (show 0 < h - l + 1 by omega)
  clear hl hh hlh hn hr
  go_enter Tryd.func24, Tryd.ntmps24
  go_wp2_with fail
  refine (take_any n _ n0 (by rw [HM.out]; exact HP.out) b _ hc).mono ?_
  rintro e w1 ⟨rfl, rfl⟩
  go_wp2_with fail
  go_ret
  rw [← HB.out, ← HM.out]
  exact ⟨rfl, rfl⟩
/-- Below's answer, and its error -/
def bel (n k : Int) : Int := if k < 1 then 0 else n % k
def belE (k : Int) : Int := if k < 1 then 40 else 0
def bet (n l h : Int) : Int := if h < l then 0 else if l = -9223372036854775808 ∧ h = 9223372036854775807 then wrap64 n else l + n % (h - l + 1)
def betE (l h : Int) : Int := if h < l then 40 else 0
def cha (n o a : Int) : Bool := if a < 1 then false else if o < 0 ∨ a < o then false else decide (n % a < o)
def chaE (o a : Int) : Int := if a < 1 then 40 else if o < 0 ∨ a < o then 1 else 0
set_option maxRecDepth 100000 in
theorem below_any (s f u k : Int) (hk : k ≤ 9223372036854775807) (w : World) (ht : Tab w) : Calls Tryd.prog 10 #[.int .u64 s, .int .i64 f, .int .i64 u, .int .i64 k] w fun e w' => e = .returned (.tuple #[.int .i64 (bel (atI s f u) k), .int .i64 (belE k)]) ∧ Still w w' := by
  by_cases h : k < 1
  · have e1 : bel (atI s f u) k = 0 := by simp [bel, h]
    have e2 : belE k = 40 := by simp [belE, h]
    rw [e1, e2]
    clear e1 e2 hk
    go_enter Tryd.func10, Tryd.ntmps10
    go_wp2
    go_ret2
    exact ⟨rfl, Fr.refl _ _⟩
  · have e1 : bel (atI s f u) k = atI s f u % k := by simp [bel, h]
    have e2 : belE k = 0 := by simp [belE, h]
    rw [e1, e2]
    have n0 := (at_in s f u).1
    have HW := hid fun v w1 h1 => within_any 0 (k - 1) (atI s f u) v (by omega) (by omega) (by omega) (by omega) n0 w1 h1
    clear e1 e2 n0
    go_enter Tryd.func10, Tryd.ntmps10
    go_wp2_with fail
    refine (at_any s f u w ht).mono ?_
    rintro e w1 ⟨rfl, h1⟩
    go_wp2_with fail
    refine (takes_any _ w1).mono ?_
    rintro e w2 ⟨v, rfl, hv, h2⟩
    go_wp2_with fail
    refine (HW.out v w2 hv).mono ?_
    rintro e w3 ⟨rfl, rfl⟩
    go_wp2_with fail
    go_ret2
    exact ⟨rfl, h1.trans h2⟩
theorem rest_i64 {n k : Int} (h0 : 0 ≤ n) (h1 : n < 18446744073709551616) (hk : 0 < k) (hk2 : k ≤ 9223372036854775807) : wrap64 (n.tmod (IntKind.u64.wrap k)) = n % k := by
  have hr := mod_in (m := k) h0 hk
  have e : IntKind.u64.wrap k = k := by rw [IntKind.wrap_u64]; omega
  rw [e, Int.tmod_eq_emod_of_nonneg h0]
  unfold wrap64
  omega
theorem wrap_ne {k : Int} (hk : 0 < k) (hk2 : k ≤ 9223372036854775807) : ¬ IntKind.u64.wrap k = 0 := by
  rw [IntKind.wrap_u64]; omega
set_option maxRecDepth 100000 in
theorem rbelow_any (s f u k : Int) (hk : k ≤ 9223372036854775807) (w : World) : Calls Tryd.prog 11 #[.int .u64 s, .int .i64 f, .int .i64 u, .int .i64 k] w fun e w' => e = .returned (.tuple #[.int .i64 (bel (atI s f u) k), .int .i64 (belE k)]) ∧ w' = w := by
  by_cases h : k < 1
  · have e1 : bel (atI s f u) k = 0 := by simp [bel, h]
    have e2 : belE k = 40 := by simp [belE, h]
    rw [e1, e2]
    clear e1 e2 hk
    go_enter Tryd.func11, Tryd.ntmps11
    go_wp2
    go_ret2
    exact ⟨rfl, rfl⟩
  · have e1 : bel (atI s f u) k = atI s f u % k := by simp [bel, h]
    have e2 : belE k = 0 := by simp [belE, h]
    rw [e1, e2]
    have HB := hid (rest_i64 (at_in s f u).1 (at_in s f u).2 (show 0 < k by omega) hk)
    have hz := wrap_ne (show 0 < k by omega) hk
    clear e1 e2 hk
    go_enter Tryd.func11, Tryd.ntmps11
    go_wp2_with fail
    refine (rat_any s f u w).mono ?_
    rintro e w1 ⟨rfl, rfl⟩
    go_wp2_with fail
    go_ret2
    rw [← HB.out]
    exact ⟨rfl, rfl⟩
set_option maxRecDepth 100000 in
theorem between_any (s f u l h : Int) (hl : -9223372036854775808 ≤ l) (hh : h ≤ 9223372036854775807) (w : World) (ht : Tab w) : Calls Tryd.prog 12 #[.int .u64 s, .int .i64 f, .int .i64 u, .int .i64 l, .int .i64 h] w fun e w' => e = .returned (.tuple #[.int .i64 (bet (atI s f u) l h), .int .i64 (betE l h)]) ∧ Still w w' := by
  by_cases hlh : h < l
  · have e1 : bet (atI s f u) l h = 0 := by simp [bet, hlh]
    have e2 : betE l h = 40 := by simp [betE, hlh]
    rw [e1, e2]
    clear e1 e2 hl hh
    go_enter Tryd.func12, Tryd.ntmps12
    go_wp2
    go_ret2
    exact ⟨rfl, Fr.refl _ _⟩
  · have e2 : betE l h = 0 := by simp [betE, hlh]
    rw [e2]
    clear e2
    by_cases hw : l = -9223372036854775808 ∧ h = 9223372036854775807
    · have e1 : bet (atI s f u) l h = wrap64 (atI s f u) := by simp only [bet, if_neg hlh, if_pos hw]
      rw [e1]
      obtain ⟨rfl, rfl⟩ := hw
      clear e1 hl hh hlh
      go_enter Tryd.func12, Tryd.ntmps12
      go_wp2_with fail
      refine (at_any s f u w ht).mono ?_
      rintro e w1 ⟨rfl, h1⟩
      go_wp2_with fail
      go_ret2
      exact ⟨rfl, h1⟩
    · have e1 : bet (atI s f u) l h = l + atI s f u % (h - l + 1) := by simp only [bet, if_neg hlh, if_neg hw]
      rw [e1]
      have n0 := (at_in s f u).1
      clear e1
      by_cases hl1 : l = -9223372036854775808
      · have hh1 : ¬ h = 9223372036854775807 := fun e => hw ⟨hl1, e⟩
        subst hl1
        have HW := hid fun v w1 h1 => within_any (-9223372036854775808) h (atI s f u) v hl hh (by omega) hw n0 w1 h1
        clear hw hl hh n0
        go_enter Tryd.func12, Tryd.ntmps12
        go_wp2_with fail
        refine (at_any s f u w ht).mono ?_
        rintro e w1 ⟨rfl, h1⟩
        go_wp2_with fail
        refine (takes_any _ w1).mono ?_
        rintro e w2 ⟨v, rfl, hv, h2⟩
        go_wp2_with fail
        refine (HW.out v w2 hv).mono ?_
        rintro e w3 ⟨rfl, rfl⟩
        go_wp2_with fail
        go_ret2
        exact ⟨rfl, h1.trans h2⟩
      · have HW := hid fun v w1 h1 => within_any l h (atI s f u) v hl hh (by omega) hw n0 w1 h1
        clear hw hl hh n0
        go_enter Tryd.func12, Tryd.ntmps12
        go_wp2_with fail
        refine (at_any s f u w ht).mono ?_
        rintro e w1 ⟨rfl, h1⟩
        go_wp2_with fail
        refine (takes_any _ w1).mono ?_
        rintro e w2 ⟨v, rfl, hv, h2⟩
        go_wp2_with fail
        refine (HW.out v w2 hv).mono ?_
        rintro e w3 ⟨rfl, rfl⟩
        go_wp2_with fail
        go_ret2
        exact ⟨rfl, h1.trans h2⟩
theorem many_whole : IntKind.u64.wrap (IntKind.u64.wrap (IntKind.u64.wrap 9223372036854775807 - IntKind.u64.wrap (-9223372036854775808)) + 1) = 0 := by decide
set_option maxRecDepth 100000 in
theorem rbetween_any (s f u l h : Int) (hl : -9223372036854775808 ≤ l) (hh : h ≤ 9223372036854775807) (w : World) : Calls Tryd.prog 13 #[.int .u64 s, .int .i64 f, .int .i64 u, .int .i64 l, .int .i64 h] w fun e w' => e = .returned (.tuple #[.int .i64 (bet (atI s f u) l h), .int .i64 (betE l h)]) ∧ w' = w := by
  by_cases hlh : h < l
  · have e1 : bet (atI s f u) l h = 0 := by simp [bet, hlh]
    have e2 : betE l h = 40 := by simp [betE, hlh]
    rw [e1, e2]
    clear e1 e2 hl hh
    go_enter Tryd.func13, Tryd.ntmps13
    go_wp2
    go_ret2
    exact ⟨rfl, rfl⟩
  · have e2 : betE l h = 0 := by simp [betE, hlh]
    rw [e2]
    clear e2
    by_cases hw : l = -9223372036854775808 ∧ h = 9223372036854775807
    · have e1 : bet (atI s f u) l h = wrap64 (atI s f u) := by simp only [bet, if_neg hlh, if_pos hw]
      rw [e1]
      obtain ⟨rfl, rfl⟩ := hw
      clear e1 hl hh hlh
      have hm := many_whole
      go_enter Tryd.func13, Tryd.ntmps13
      go_wp2_with fail
      refine (rat_any s f u w).mono ?_
      rintro e w1 ⟨rfl, rfl⟩
      go_wp2_with fail
      go_ret2
      exact ⟨rfl, rfl⟩
    · have e1 : bet (atI s f u) l h = l + atI s f u % (h - l + 1) := by simp only [bet, if_neg hlh, if_neg hw]
      rw [e1]
      have n0 := (at_in s f u).1
      have HM := hid (many_eq hl hh (by omega) hw)
      have hr := mod_in (m := h - l + 1) n0 (by omega)
      have HB := hid (back_eq (r := atI s f u % (h - l + 1)) hl hr.1 (by omega))
      have HE := hid (Int.tmod_eq_emod_of_nonneg (b := h - l + 1) n0)
      have hp : 0 < IntKind.u64.wrap (IntKind.u64.wrap (IntKind.u64.wrap h - IntKind.u64.wrap l) + 1) := by rw [HM.out]; omega
      have hz : ¬ IntKind.u64.wrap (IntKind.u64.wrap (IntKind.u64.wrap h - IntKind.u64.wrap l) + 1) = 0 := by rw [HM.out]; omega
      clear e1 n0 hl hh hr hw
      generalize hM : IntKind.u64.wrap (IntKind.u64.wrap (IntKind.u64.wrap h - IntKind.u64.wrap l) + 1) = M at hp hz HM
      have HMM := hid hM
      go_enter Tryd.func13, Tryd.ntmps13
      go_wp2_with fail
      refine (rat_any s f u w).mono ?_
      rintro e w1 ⟨rfl, rfl⟩
      go_wp2_with fail
      go_ret2
      rw [← HB.out, ← HE.out, ← HM.out]
      exact ⟨rfl, rfl⟩
set_option maxRecDepth 100000 in
theorem chance_any (s f u o a : Int) (ha : a ≤ 9223372036854775807) (w : World) (ht : Tab w) : Calls Tryd.prog 14 #[.int .u64 s, .int .i64 f, .int .i64 u, .int .i64 o, .int .i64 a] w fun e w' => e = .returned (.tuple #[.bool (cha (atI s f u) o a), .int .i64 (chaE o a)]) ∧ Still w w' := by
  by_cases h : a < 1
  · have e1 : cha (atI s f u) o a = false := by simp [cha, h]
    have e2 : chaE o a = 40 := by simp [chaE, h]
    rw [e1, e2]
    clear e1 e2 ha
    go_enter Tryd.func14, Tryd.ntmps14
    go_wp2
    go_ret2
    exact ⟨rfl, Fr.refl _ _⟩
  · by_cases h1 : o < 0 ∨ a < o
    · have e1 : cha (atI s f u) o a = false := by simp only [cha, if_neg h, if_pos h1]
      have e2 : chaE o a = 1 := by simp only [chaE, if_neg h, if_pos h1]
      rw [e1, e2]
      clear e1 e2 ha
      rcases h1 with h1 | h1
      · go_enter Tryd.func14, Tryd.ntmps14
        go_wp2
        go_ret2
        exact ⟨rfl, Fr.refl _ _⟩
      · have h2 : ¬ o < 0 := by omega
        go_enter Tryd.func14, Tryd.ntmps14
        go_wp2
        go_ret2
        exact ⟨rfl, Fr.refl _ _⟩
    · have e1 : cha (atI s f u) o a = decide (atI s f u % a < o) := by simp only [cha, if_neg h, if_neg h1]
      have e2 : chaE o a = 0 := by simp only [chaE, if_neg h, if_neg h1]
      rw [e1, e2]
      have n0 := (at_in s f u).1
      have HW := hid fun v w1 h1 => within_any 0 (a - 1) (atI s f u) v (by omega) (by omega) (by omega) (by omega) n0 w1 h1
      have h2 : ¬ o < 0 := by omega
      have h3 : ¬ a < o := by omega
      clear e1 e2 n0 h1
      go_enter Tryd.func14, Tryd.ntmps14
      go_wp2_with fail
      refine (at_any s f u w ht).mono ?_
      rintro e w1 ⟨rfl, h1⟩
      go_wp2_with fail
      refine (takes_any _ w1).mono ?_
      rintro e w2 ⟨v, rfl, hv, h2⟩
      go_wp2_with fail
      refine (HW.out v w2 hv).mono ?_
      rintro e w3 ⟨rfl, rfl⟩
      go_wp2_with fail
      go_ret2
      exact ⟨rfl, h1.trans h2⟩
set_option maxRecDepth 100000 in
theorem rchance_any (s f u o a : Int) (ha : a ≤ 9223372036854775807) (w : World) : Calls Tryd.prog 15 #[.int .u64 s, .int .i64 f, .int .i64 u, .int .i64 o, .int .i64 a] w fun e w' => e = .returned (.tuple #[.bool (cha (atI s f u) o a), .int .i64 (chaE o a)]) ∧ w' = w := by
  by_cases h : a < 1
  · have e1 : cha (atI s f u) o a = false := by simp [cha, h]
    have e2 : chaE o a = 40 := by simp [chaE, h]
    rw [e1, e2]
    clear e1 e2 ha
    go_enter Tryd.func15, Tryd.ntmps15
    go_wp2
    go_ret2
    exact ⟨rfl, rfl⟩
  · by_cases h1 : o < 0 ∨ a < o
    · have e1 : cha (atI s f u) o a = false := by simp only [cha, if_neg h, if_pos h1]
      have e2 : chaE o a = 1 := by simp only [chaE, if_neg h, if_pos h1]
      rw [e1, e2]
      clear e1 e2 ha
      rcases h1 with h1 | h1
      · go_enter Tryd.func15, Tryd.ntmps15
        go_wp2
        go_ret2
        exact ⟨rfl, rfl⟩
      · have h2 : ¬ o < 0 := by omega
        go_enter Tryd.func15, Tryd.ntmps15
        go_wp2
        go_ret2
        exact ⟨rfl, rfl⟩
    · have e1 : cha (atI s f u) o a = decide (atI s f u % a < o) := by simp only [cha, if_neg h, if_neg h1]
      have e2 : chaE o a = 0 := by simp only [chaE, if_neg h, if_neg h1]
      rw [e1, e2]
      have n0 := (at_in s f u).1
      have h2 : ¬ o < 0 := by omega
      have h3 : ¬ a < o := by omega
      have hz := wrap_ne (show 0 < a by omega) ha
      have HB := hid (show (atI s f u).tmod (IntKind.u64.wrap a) = atI s f u % a by
        rw [show IntKind.u64.wrap a = a by rw [IntKind.wrap_u64]; omega, Int.tmod_eq_emod_of_nonneg n0])
      have HO := hid (show IntKind.u64.wrap o = o by rw [IntKind.wrap_u64]; omega)
      clear e1 e2 n0 h1 ha
      go_enter Tryd.func15, Tryd.ntmps15
      go_wp2_with fail
      refine (rat_any s f u w).mono ?_
      rintro e w1 ⟨rfl, rfl⟩
      go_wp2_with fail
      go_ret2
      refine ⟨?_, rfl⟩
      rw [← HB.out]
      conv => rhs; rw [← HO.out]
      rfl
end Go.Proofs.YtbadpcdlhgbegaaDoor
