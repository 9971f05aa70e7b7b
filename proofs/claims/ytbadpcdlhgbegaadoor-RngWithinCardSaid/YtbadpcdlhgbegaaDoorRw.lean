/- Contracts: a place by weights. -/
import Derived.Test.YtbadpcdlhgbegaaDoorRl
namespace Go.Proofs.YtbadpcdlhgbegaaDoor
open Go.RowKit

theorem place_step {bs : List Int} {L : Int} {i : Nat} (hi : i < bs.length) (hpk : Rg.pick L bs < bs.length) (h : Rg.pick L bs = i + Rg.pick (L - Rg.sum (bs.take i)) (bs.drop i)) (hle : Rg.sum (bs.take (i + 1)) ≤ L) :
    i + 1 < bs.length ∧ Rg.pick L bs = (i + 1) + Rg.pick (L - Rg.sum (bs.take (i + 1))) (bs.drop (i + 1)) := by
  have e := sum_take hi
  have := Rg.pick_step hi h (by omega)
  rw [show L - Rg.sum (bs.take i) - bs[i] = L - Rg.sum (bs.take (i + 1)) by omega] at this
  exact ⟨by omega, this⟩
theorem place_here {bs : List Int} {L : Int} {i : Nat} (hi : i < bs.length) (h : Rg.pick L bs = i + Rg.pick (L - Rg.sum (bs.take i)) (bs.drop i)) (hlt : L < Rg.sum (bs.take (i + 1))) : Rg.pick L bs = i := by
  have e := sum_take hi
  exact Rg.pick_here hi h (by omega)
set_option maxHeartbeats 1000000 in
set_option maxRecDepth 100000 in
theorem place_any (N : Int) (n0 : 0 ≤ N) (v : Value) (ao : Option Addr) (n cap : Nat) (bs : List Int) (w : World) (hr : RdI w ao n cap bs) (hok : ∀ v ∈ bs, okW v) (h64 : n ≤ 64) (hs : 0 < Rg.sum bs) (ht : Tk w v N) :
    Calls Tryd.prog 31 #[.slice ao n cap, v] w fun e w' => e = .returned (.int .i64 ((Rg.pick (N % Rg.sum bs) bs : Nat) : Int)) ∧ Still w w' := by
  have hlen := hr.len
  have hm := mod_in n0 hs
  obtain ⟨hpk, -⟩ := Rg.pick_ok bs (N % Rg.sum bs) (fun v hv => (hok v hv).1) hm.1 hm.2.1
  have hn : 0 < n := by omega
  obtain ⟨b, o, rfl⟩ := hr.addr hn
  obtain ⟨tb, rfl, hc⟩ := ht
  have HT := hid (together_any (some ⟨b, o, none⟩) n cap bs w hr hok h64)
  have HK := hid (take_any N (Rg.sum bs) n0 hs tb w hc)
  have H0 : Hid (Rg.sum (bs.take 0) = 0) := hid rfl
  have hx0 : Hid (IntKind.u64.wrap (bs[0]'(by omega)) = Rg.sum (bs.take (0 + 1))) := hid (by
    have h1 := sum_take (bs := bs) (k := 0) (by omega)
    rw [h1, H0.out, Int.zero_add, IntKind.wrap_u64]
    have := hok _ (List.getElem_mem (show 0 < bs.length by omega))
    unfold okW at this
    omega)
  have c0 := hr.byte (k := 0) (by omega)
  generalize hL : N % Rg.sum bs = L at hpk HK hm ⊢
  have hm0 := hm.1
  have hm1 := hid hm.2.1
  obtain ⟨x0, hxx⟩ : ∃ x, x = bs[0]'(by omega) := ⟨_, rfl⟩
  rw [← hxx] at c0 hx0
  rw [Nat.add_zero] at c0
  clear hL hm hc n0 hxx
  have HN := hid (And.intro hlen (And.intro hok hpk))
  clear hlen hok hpk hs
  go_enter Tryd.func31, Tryd.ntmps31
  go_wp2_with fail
  refine HT.out.mono ?_
  rintro e w1 ⟨rfl, rfl⟩
  go_wp2_with fail
  refine HK.out.mono ?_
  rintro e w1 ⟨rfl, rfl⟩
  clear HT HK
  go_wp2_with fail
  go_quiet (fail)
  have hr1 := hr.drewN nq
  have hst : Still w1 (w1.drewN nq) := (Fr.refl _ w1).drewN nq
  generalize w1.drewN nq = w2 at hr1 hst ⊢
  clear hr c0
  go_wp2_with fail
  go_loopw [6, 7] (fun va vu wr => ∃ (i : Nat) (up : Int), i < n ∧ va = .int .i64 (i : Int) ∧ vu = .int .u64 up ∧ Hid (up = Rg.sum (bs.take (i + 1)) ∧ Rg.pick L bs = i + Rg.pick (L - Rg.sum (bs.take i)) (bs.drop i)) ∧ wr = w2) (fun va _ _ => n - (intOf va).toNat)
  case atStart => exact ⟨0, _, by have := HN.out.1; have := HN.out.2.2; omega, rfl, rfl, hid ⟨hx0.out, by rw [H0.out, Int.sub_zero, List.drop_zero, Nat.zero_add]⟩, rfl⟩
  case round =>
    obtain ⟨i, up, hi, rfl, rfl, HU, rfl⟩ := hrel
    by_cases hle : up ≤ L
    · have HS := hid (place_step (L := L) (by have := HN.out.1; omega) HN.out.2.2 HU.out.2 (by rw [← HU.out.1]; exact hle))
      have hi1 : i + 1 < n := by have := HN.out.1; have := HS.out.1; omega
      have hkl : i + 1 < bs.length := HS.out.1
      have c1 := hr1.byte hkl
      have HA := hid (add_u64 (a := up) (x := bs[i + 1]) (y := Rg.sum (bs.take (i + 1 + 1))) (by rw [HU.out.1]; exact sum_take_in HN.out.2.1 (by have := HN.out.1; omega) (i + 1)) (HN.out.2.1 _ (List.getElem_mem hkl)) (by rw [HU.out.1]; exact sum_take hkl))
      obtain ⟨x, hx⟩ : ∃ x, x = bs[i + 1] := ⟨_, rfl⟩
      rw [← hx] at c1 HA
      clear hx hr1 hkl
      go_wp2
      go_roundw
      case rel => exact ⟨i + 1, _, by omega, by go_num, rfl, hid ⟨HA.out, HS.out.2⟩, by trivial⟩
      case measure => simp [intOf]; omega
    · have HH := hid (place_here (L := L) (by have := HN.out.1; omega) HU.out.2 (by rw [← HU.out.1]; omega))
      clear hr1
      go_wp2
      go_ret
      rw [HH.out]
      exact ⟨rfl, hst⟩
/-- Weighted's error, and its answer -/
def wgtE (bs : List Int) : Int := if 64 < bs.length then 2 else if bs.all (fun v => decide (0 ≤ v) && decide (v ≤ 2147483647)) = false then 1 else if Rg.sum bs = 0 then 40 else 0
def wgt (N : Int) (bs : List Int) : Int := if wgtE bs = 0 then ((Rg.pick (N % Rg.sum bs) bs : Nat) : Int) else 0
theorem all_ok {bs : List Int} : bs.all (fun v => decide (0 ≤ v) && decide (v ≤ 2147483647)) = true ↔ ∀ v ∈ bs, okW v := by
  simp [List.all_eq_true, okW]
theorem wgt_long {bs : List Int} (N : Int) (h : 64 < bs.length) : wgtE bs = 2 ∧ wgt N bs = 0 := by
  have e : wgtE bs = 2 := by simp [wgtE, h]
  exact ⟨e, by simp [wgt, e]⟩
theorem wgt_bad {bs : List Int} (N : Int) (h : ¬ 64 < bs.length) (hno : ¬ ∀ v ∈ bs, okW v) : wgtE bs = 1 ∧ wgt N bs = 0 := by
  have e : wgtE bs = 1 := by
    unfold wgtE
    rw [if_neg h, if_pos (by rw [← all_ok] at hno; simpa using hno)]
  exact ⟨e, by simp [wgt, e]⟩
theorem wgt_none {bs : List Int} (N : Int) (h : ¬ 64 < bs.length) (hok : ∀ v ∈ bs, okW v) (hs : Rg.sum bs = 0) : wgtE bs = 40 ∧ wgt N bs = 0 := by
  have e : wgtE bs = 40 := by
    unfold wgtE
    rw [if_neg h, if_neg (by rw [all_ok.2 hok]; simp), if_pos hs]
  exact ⟨e, by simp [wgt, e]⟩
theorem wgt_some {bs : List Int} (N : Int) (h : ¬ 64 < bs.length) (hok : ∀ v ∈ bs, okW v) (hs : ¬ Rg.sum bs = 0) : wgtE bs = 0 ∧ wgt N bs = ((Rg.pick (N % Rg.sum bs) bs : Nat) : Int) := by
  have e : wgtE bs = 0 := by
    unfold wgtE
    rw [if_neg h, if_neg (by rw [all_ok.2 hok]; simp), if_neg hs]
  exact ⟨e, by simp [wgt, e]⟩
set_option maxHeartbeats 1000000 in
set_option maxRecDepth 100000 in
theorem weighted_any (s f u : Int) (ao : Option Addr) (n cap : Nat) (bs : List Int) (w : World) (hr : RdI w ao n cap bs) (ht : Tab w) :
    Calls Tryd.prog 19 #[.int .u64 s, .int .i64 f, .int .i64 u, .slice ao n cap] w fun e w' => e = .returned (.tuple #[.int .i64 (wgt (atI s f u) bs), .int .i64 (wgtE bs)]) ∧ Still w w' := by
  have hlen := hr.len
  by_cases h64 : 64 < n
  · obtain ⟨e1, e2⟩ := wgt_long (bs := bs) (atI s f u) (by omega)
    rw [e1, e2]
    clear e1 e2 hlen hr
    go_enter Tryd.func19, Tryd.ntmps19
    go_wp2
    go_ret2
    exact ⟨rfl, Fr.refl _ _⟩
  · by_cases hok : ∀ v ∈ bs, okW v
    · have HC := hid (contains_ok ao n cap bs w hr hok)
      have HT := hid (together_any ao n cap bs w hr hok (by omega))
      by_cases hs : Rg.sum bs = 0
      · obtain ⟨e1, e2⟩ := wgt_none (bs := bs) (atI s f u) (by omega) hok hs
        rw [e1, e2]
        rw [hs] at HT
        clear e1 e2 hlen hr hok hs
        go_enter Tryd.func19, Tryd.ntmps19
        go_wp2_with fail
        refine HC.out.mono ?_
        rintro e w1 ⟨rfl, rfl⟩
        go_wp2_with fail
        refine HT.out.mono ?_
        rintro e w1 ⟨rfl, rfl⟩
        go_wp2_with fail
        go_ret2
        exact ⟨rfl, Fr.refl _ _⟩
      · obtain ⟨e1, e2⟩ := wgt_some (bs := bs) (atI s f u) (by omega) hok hs
        rw [e1, e2]
        have hp : 0 < Rg.sum bs := by have := (sum_in hok (by omega)).1; omega
        have HP := hid fun v w1 (h1 : Still w w1) ht1 => place_any (atI s f u) (at_in s f u).1 v ao n cap bs w1 (hr.still h1) hok (by omega) hp ht1
        generalize hS : Rg.sum bs = S at HT hs HP ⊢
        clear e1 e2 hlen hr hok hp hS
        go_enter Tryd.func19, Tryd.ntmps19
        go_wp2_with fail
        refine HC.out.mono ?_
        rintro e w1 ⟨rfl, rfl⟩
        go_wp2_with fail
        refine HT.out.mono ?_
        rintro e w1 ⟨rfl, rfl⟩
        go_wp2_with fail
        refine (at_any s f u _ ht).mono ?_
        rintro e w2 ⟨rfl, h2⟩
        go_wp2_with fail
        refine (takes_any _ w2).mono ?_
        rintro e w3 ⟨v, rfl, hv, h3⟩
        go_wp2_with fail
        refine (HP.out v w3 (h2.trans h3) hv).mono ?_
        rintro e w4 ⟨rfl, h4⟩
        go_wp2_with fail
        go_ret2
        exact ⟨rfl, h2.trans (h3.trans h4)⟩
    · obtain ⟨e1, e2⟩ := wgt_bad (bs := bs) (atI s f u) (by omega) hok
      rw [e1, e2]
      have HC := hid (contains_bad ao n cap bs w hr hok)
      clear e1 e2 hlen hr hok
      go_enter Tryd.func19, Tryd.ntmps19
      go_wp2_with fail
      refine HC.out.mono ?_
      rintro e w1 ⟨rfl, rfl⟩
      go_wp2_with fail
      go_ret2
      exact ⟨rfl, Fr.refl _ _⟩
end Go.Proofs.YtbadpcdlhgbegaaDoor
