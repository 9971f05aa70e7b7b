/- RngWithin: the walk. -/
import Derived.Test.YtbadpcdlhgbegaaDoorNu
namespace Go.Proofs.YtbadpcdlhgbegaaDoor
open Go.RowKit

theorem order_either (s f u k : Int) (w : World) (ht : Tab w) :
    Calls Tryd.prog 22 #[.int .u64 s, .int .i64 f, .int .i64 u, .int .i64 k] w fun e w' => ∃ x y, e = .returned (.tuple #[x, y]) ∧ Still w w' := by
  by_cases h : k < 0 ∨ 64 < k
  · refine (order_none s f u k h w).mono ?_
    rintro e w' ⟨rfl, rfl⟩
    exact ⟨_, _, rfl, Fr.refl _ _⟩
  · obtain ⟨n, rfl⟩ : ∃ n : Nat, k = (n : Int) := ⟨k.toNat, by omega⟩
    refine (order_some s f u n (by omega) w ht).mono ?_
    rintro e w' ⟨g, rfl, _, hs, _⟩
    exact ⟨_, _, rfl, hs⟩
/-- what the walk keeps: two questions, the table, the weights -/
structure St (w0 w : World) (b : Nat) (s f u a c s' f' u' a' c' : Int) (ao : Option Addr) (n cap : Nat) (bs : List Int) : Prop where
  x : Qu w b s f u a c
  y : Qu w (b + 1) s' f' u' a' c'
  t : Tab w
  st : Still w0 w
  r : RdI w ao n cap bs
theorem St.on {w0 w w' : World} {b : Nat} {s f u a c s' f' u' a' c' : Int} {ao : Option Addr} {n cap : Nat} {bs : List Int} (h : St w0 w b s f u a c s' f' u' a' c' ao n cap bs) (hs : Still w w') : St w0 w' b s f u a c s' f' u' a' c' ao n cap bs :=
  ⟨h.x.still hs, h.y.still hs, h.t.still hs, h.st.trans hs, h.r.still hs⟩
/- what is answered lies in what was asked for -/
theorem bel_lies (N a : Int) (n0 : 0 ≤ N) : (1 ≤ a ∧ belE a = 0 ∧ 0 ≤ bel N a ∧ bel N a < a) ∨ (a < 1 ∧ belE a = 40) := by
  by_cases h : a < 1
  · right; exact ⟨h, by unfold belE; rw [if_pos h]⟩
  · left
    have := mod_in (m := a) n0 (by omega)
    unfold bel belE
    rw [if_neg h, if_neg h]
    omega
theorem wrap64_lies (N : Int) : -9223372036854775808 ≤ wrap64 N ∧ wrap64 N ≤ 9223372036854775807 := by unfold wrap64; omega
theorem bet_lies (N l h : Int) (n0 : 0 ≤ N) : (l ≤ h ∧ betE l h = 0 ∧ l ≤ bet N l h ∧ bet N l h ≤ h) ∨ (h < l ∧ betE l h = 40) := by
  by_cases hl : h < l
  · right; exact ⟨hl, by unfold betE; rw [if_pos hl]⟩
  · left
    have hw := wrap64_lies N
    by_cases hh : l = -9223372036854775808 ∧ h = 9223372036854775807
    · have e1 : bet N l h = wrap64 N := by simp only [bet, if_neg hl, if_pos hh]
      have e2 : betE l h = 0 := by simp only [betE, if_neg hl]
      rw [e1, e2]
      omega
    · have e1 : bet N l h = l + N % (h - l + 1) := by simp only [bet, if_neg hl, if_neg hh]
      have e2 : betE l h = 0 := by simp only [betE, if_neg hl]
      have := mod_in (m := h - l + 1) n0 (by omega)
      rw [e1, e2]
      omega
theorem wgt_lies (N : Int) (bs : List Int) (n0 : 0 ≤ N) : (wgtE bs = 0 ∧ ∃ (k : Nat) (hk : k < bs.length), wgt N bs = (k : Int) ∧ 0 < bs[k]) ∨ ¬ wgtE bs = 0 := by
  by_cases h : wgtE bs = 0
  · left
    refine ⟨h, ?_⟩
    have h64 : ¬ 64 < bs.length := fun hl => by rw [(wgt_long N hl).1] at h; omega
    have hok : ∀ v ∈ bs, okW v := Classical.byContradiction fun hno => by rw [(wgt_bad N h64 hno).1] at h; omega
    have hs : ¬ Rg.sum bs = 0 := fun hs => by rw [(wgt_none N h64 hok hs).1] at h; omega
    have hp : 0 < Rg.sum bs := by have := (sum_in hok (by omega)).1; omega
    have hm := mod_in n0 hp
    obtain ⟨hk, hv⟩ := Rg.pick_ok bs (N % Rg.sum bs) (fun v hv => (hok v hv).1) hm.1 hm.2.1
    exact ⟨_, hk, (wgt_some N h64 hok hs).2, hv⟩
  · exact .inr h
theorem cha_lies (N a : Int) (n0 : 0 ≤ N) (ha : 1 ≤ a) : cha N 0 a = false ∧ chaE 0 a = 0 ∧ cha N a a = true ∧ chaE a a = 0 := by
  have hm := mod_in (m := a) n0 (by omega)
  unfold cha chaE
  rw [if_neg (by omega), if_neg (by omega), if_neg (by omega), if_neg (by omega), if_neg (by omega), if_neg (by omega)]
  simp
  omega
end Go.Proofs.YtbadpcdlhgbegaaDoor
