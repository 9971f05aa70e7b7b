/- Contracts: a place by weights, the document's answer. -/
import Derived.Test.YtbadpcdlhgbegaaDoorRw
namespace Go.Proofs.YtbadpcdlhgbegaaDoor
open Go.RowKit

theorem rplace_step {bs : List Int} {L x : Int} {i : Nat} (hi : i < bs.length) (hpk : Rg.pick L bs < bs.length) (h : Rg.pick L bs = i + Rg.pick x (bs.drop i)) (hle : bs[i] ≤ x) :
    i + 1 < bs.length ∧ Rg.pick L bs = (i + 1) + Rg.pick (x - bs[i]) (bs.drop (i + 1)) := by
  have := Rg.pick_step hi h (by omega)
  exact ⟨by omega, this⟩
set_option maxHeartbeats 2000000 in
set_option maxRecDepth 100000 in
theorem rweighted_any (s f u : Int) (ao : Option Addr) (n cap : Nat) (bs : List Int) (w : World) (hr : RdI w ao n cap bs) :
    Calls Tryd.prog 20 #[.int .u64 s, .int .i64 f, .int .i64 u, .slice ao n cap] w fun e w' => e = .returned (.tuple #[.int .i64 (wgt (atI s f u) bs), .int .i64 (wgtE bs)]) ∧ w' = w := by
  have hlen := hr.len
  have hsm := hr.small
  by_cases h64 : 64 < n
  · obtain ⟨e1, e2⟩ := wgt_long (bs := bs) (atI s f u) (by omega)
    rw [e1, e2]
    clear e1 e2 hlen hr
    go_enter Tryd.func20, Tryd.ntmps20
    go_wp2
    go_ret2
    exact ⟨rfl, rfl⟩
  · have HL := hid hlen
    clear hlen
    go_enter Tryd.func20, Tryd.ntmps20
    go_wp2
    go_loopw [10, 11] (fun va vi wr => ∃ (k : Nat) (a : Int), k ≤ n ∧ va = .int .i64 a ∧ vi = .int .i64 (k : Int) ∧ Hid (a = Rg.sum (bs.take k) ∧ ∀ v ∈ bs.take k, okW v) ∧ wr = w) (fun _ vi _ => n - (intOf vi).toNat)
    case atStart => exact ⟨0, _, Nat.zero_le _, rfl, rfl, hid ⟨rfl, by simp⟩, rfl⟩
    case round =>
      obtain ⟨k, a, hk, rfl, rfl, HA, rfl⟩ := hrel
      by_cases hlt : k < n
      · have hkl : k < bs.length := by have := HL.out; omega
        obtain ⟨b, o, rfl⟩ := hr.addr (by omega)
        have hc := hr.byte hkl
        rcases okW_dec bs[k] with hw | hw
        · have HA2 : Hid (a + bs[k] = Rg.sum (bs.take (k + 1)) ∧ ∀ v ∈ bs.take (k + 1), okW v) := hid ⟨by rw [HA.out.1]; exact (sum_take hkl).symm, by
            intro v hv
            rw [List.take_succ_eq_append_getElem hkl] at hv
            rcases List.mem_append.1 hv with hv | hv
            · exact HA.out.2 v hv
            · simp at hv
              rw [hv]; exact hw⟩
          obtain ⟨hx0, hx1⟩ := hw
          obtain ⟨ha0, ha1⟩ : 0 ≤ a ∧ a ≤ 137438953408 := by
            rw [HA.out.1]
            exact sum_in HA.out.2 (by simp; omega)
          obtain ⟨x, hx⟩ : ∃ x, x = bs[k] := ⟨_, rfl⟩
          rw [← hx] at hc HA2 hx0 hx1
          clear hx hr HA hkl
          go_wp2
          go_roundw
          case rel => exact ⟨k + 1, _, by omega, rfl, by go_num, HA2, by trivial⟩
          case measure => simp [intOf]; omega
        · obtain ⟨e1, e2⟩ := wgt_bad (bs := bs) (atI s f u) (by have := HL.out; omega) (fun h => hw (h _ (List.getElem_mem hkl)))
          have HE := hid (And.intro e1 e2)
          obtain ⟨x, hx⟩ : ∃ x, x = bs[k] := ⟨_, rfl⟩
          rw [← hx] at hc hw
          clear hx hr HA e1 e2 hkl
          by_cases hx0 : x < 0
          · clear hw
            go_wp2
            go_ret2
            rw [HE.out.1, HE.out.2]
            exact ⟨rfl, rfl⟩
          · have hx1 : 2147483647 < x := by unfold okW at hw; omega
            clear hw
            go_wp2
            go_ret2
            rw [HE.out.1, HE.out.2]
            exact ⟨rfl, rfl⟩
      · rw [List.take_of_length_le (by have := HL.out; omega)] at HA
        obtain ⟨ha, hok⟩ := HA.out
        by_cases hs : Rg.sum bs = 0
        · obtain ⟨e1, e2⟩ := wgt_none (bs := bs) (atI s f u) (by have := HL.out; omega) hok hs
          have HE := hid (And.intro e1 e2)
          rw [hs] at ha
          subst ha
          clear hok hs HA e1 e2 hr
          go_wp2
          go_ret2
          rw [HE.out.1, HE.out.2]
          exact ⟨rfl, rfl⟩
        · obtain ⟨e1, e2⟩ := wgt_some (bs := bs) (atI s f u) (by have := HL.out; omega) hok hs
          have HE := hid (And.intro e1 e2)
          have hi := sum_in hok (by have := HL.out; omega)
          have n0 := (at_in s f u).1
          rw [← ha] at hs hi HE
          have hp : 0 < a := by omega
          have hm := mod_in n0 hp
          have hpk : Rg.pick (atI s f u % a) bs < bs.length := by
            have hm' := hm
            rw [ha] at hm'
            obtain ⟨hpk, -⟩ := Rg.pick_ok bs (atI s f u % Rg.sum bs) (fun v hv => (hok v hv).1) hm'.1 hm'.2.1
            rw [← ha] at hpk
            exact hpk
          have HB := hid (show wrap64 ((atI s f u).tmod a) = atI s f u % a by
            have := rest_i64 n0 (at_in s f u).2 hp (by omega)
            rwa [show IntKind.u64.wrap a = a by rw [IntKind.wrap_u64]; omega] at this)
          have hz := wrap_ne hp (by omega)
          have HN := hid (And.intro hok hpk)
          obtain ⟨b, o, rfl⟩ := hr.addr (by have := HL.out; omega)
          have hL0 := hm.1
          have hL1 := hm.2.1
          have ha1 := hi.2
          generalize hLL : atI s f u % a = L at HB HN HE hL0 hL1
          clear hok HA e1 e2 hpk hi hm hp n0 hLL ha
          go_wp2_with fail
          refine (rat_any s f u _).mono ?_
          rintro e w1 ⟨rfl, rfl⟩
          go_wp2_with fail
          go_loopw [12, 13] (fun vx vi wr => ∃ (i : Nat) (x : Int), i < n ∧ vx = .int .i64 x ∧ vi = .int .i64 (i : Int) ∧ 0 ≤ x ∧ x ≤ 137438953408 ∧ Hid (Rg.pick L bs = i + Rg.pick x (bs.drop i)) ∧ wr = w1) (fun _ vi _ => n - (intOf vi).toNat)
          case atStart => exact ⟨0, L, by have := HL.out; have := HN.out.2; omega, by rw [HB.out], rfl, hL0, by omega, hid (by rw [List.drop_zero, Nat.zero_add]), rfl⟩
          case round =>
            obtain ⟨i, x, hi, rfl, rfl, x0, x1, HX, rfl⟩ := hrel
            have hkl : i < bs.length := by have := HL.out; omega
            have hc := hr.byte hkl
            by_cases hle : bs[i] ≤ x
            · have HS := hid (rplace_step (L := L) hkl HN.out.2 HX.out hle)
              have hi1 : i + 1 < n := by have := HL.out; have := HS.out.1; omega
              have hy := HN.out.1 _ (List.getElem_mem hkl)
              obtain ⟨y0, y1⟩ := hy
              obtain ⟨y, hyy⟩ : ∃ y, y = bs[i] := ⟨_, rfl⟩
              rw [← hyy] at hc HS y0 y1 hle
              clear hyy hr hkl hs hz HX
              go_wp2
              go_roundw
              case rel => exact ⟨i + 1, _, by omega, rfl, by go_num, by omega, by omega, hid HS.out.2, by trivial⟩
              case measure => simp [intOf]; omega
            · have HH := hid (Rg.pick_here hkl HX.out (by omega))
              obtain ⟨y, hyy⟩ : ∃ y, y = bs[i] := ⟨_, rfl⟩
              rw [← hyy] at hc hle
              clear hyy hr hkl hs hz HX
              go_wp2
              go_ret2
              rw [HE.out.1, HE.out.2, HH.out]
              exact ⟨rfl, rfl⟩
end Go.Proofs.YtbadpcdlhgbegaaDoor
