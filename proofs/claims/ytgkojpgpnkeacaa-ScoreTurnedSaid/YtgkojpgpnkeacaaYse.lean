/- The library's slices.SortFunc of at most 12 int, at the program's method value: the places sorted by who is ahead. -/
import Derived.Test.YtgkojpgpnkeacaaYsd
import Derived.Test.YtgkojpgpnkeacaaK4
namespace Go.Proofs.Ytgkojpgpnkeacaa
open Go.RowKit
open Ea
set_option maxRecDepth 100000

/-- who is ahead, asked of a list -/
abbrev fvA (ao : Option Addr) (n cap : Nat) : Value := .func (.func 25) #[.slice ao n cap] #[]
theorem ahead_at {L : List Scr} {ao : Option Addr} {n cap : Nat} {w0 w : World} (hr : RdG KC w0 ao n L) (hs : Still w0 w) {R : List Int} (hp : Plc n R) {a b : Nat} (ha : a < n) (hb : b < n) (z : Aft w) :
    Calls Try.prog 25 #[.slice ao n cap, .int .i64 (R.getD a 0), .int .i64 (R.getD b 0)] z.u fun e w' => e = .returned (.int .i64 (cfL L (pl R a) (pl R b))) ∧ Still z.u w' := by
  rw [(hp.low a ha).1, (hp.low b hb).1]
  exact sahead_any L ao n cap _ _ (hp.low a ha).2 (hp.low b hb).2 z.u (hr.still (hs.trans z.s))
set_option maxHeartbeats 4000000 in
theorem sins_any (L : List Scr) (ao : Option Addr) (n cap g : Nat) (h6 : n ≤ 12) (w0 w : World) (hr : RdG KC w0 ao n L) (hg : w0.heap.size ≤ g) (hs : Still w0 w) (R : List Int) (hp : Plc n R) (ho : OwI 3 w (some ⟨g, 0, none⟩) n n R) :
    Calls Try.prog 32 #[.slice (some ⟨g, 0, none⟩) n n, .int .i64 0, .int .i64 (n : Int), fvA ao n cap] w fun e w' => e = .returned (.tuple #[]) ∧ ∃ R', Plc n R' ∧ Srt L R' n ∧ OwI 3 w' (some ⟨g, 0, none⟩) n n R' ∧ Still w0 w' := by
  have HR := hid hr
  have H0 := hid (And.intro hp (And.intro ho hs))
  clear hr hp ho hs
  go_enter Try.func32, Try.ntmps32
  go_wp2_with fail
  go_loopw [8] (fun u wr => ∃ (i : Nat) (R1 : List Int), 1 ≤ i ∧ i ≤ n + 1 ∧ u = .int .i64 (i : Int) ∧ Hid (Plc n R1 ∧ Srt L R1 i ∧ OwI 3 wr (some ⟨g, 0, none⟩) n n R1 ∧ Still w0 wr)) (fun u _ => n + 1 - (intOf u).toNat)
  case atStart => exact ⟨1, R, by omega, by omega, by go_num, hid ⟨H0.out.1, fun a b h1 h2 => by omega, H0.out.2⟩⟩
  case round =>
    clear H0
    obtain ⟨i, R1, hi1, hi2, rfl, H1⟩ := hrel
    by_cases hin : i < n
    · have hlt : (i : Int) < (n : Int) := by omega
      go_wp2_with fail
      go_loopw [9] (fun u wr => ∃ (j : Nat) (R2 : List Int), j ≤ i ∧ u = .int .i64 (j : Int) ∧ Hid (Plc n R2 ∧ Ins L R2 i j ∧ OwI 3 wr (some ⟨g, 0, none⟩) n n R2 ∧ Still w0 wr)) (fun u _ => (intOf u).toNat)
      case atStart => exact ⟨i, R1, Nat.le_refl _, rfl, hid ⟨H1.out.1, ins_start H1.out.2.1, H1.out.2.2⟩⟩
      case round =>
        clear H1
        obtain ⟨j, R2, hj, rfl, H2⟩ := hrel
        rcases j with _ | m
        · have hz : decide ((0 : Int) > 0) = false := by decide
          have hne := Aft.here wr
          have H3 := hid (ins_stop H2.out.1 hin hj H2.out.2.1 (.inl rfl))
          go_upto_region 4 with fail
          refine region_all (by kernel_rfl) (by kernel_rfl) ?_
          repeat (go_big_quiet_step (fail))
          refine wpQuiet_nil ?_
          intro w3 h3
          have H4 : Hid (Plc n R2 ∧ Srt L R2 (i + 1) ∧ OwI 3 w3 (some ⟨g, 0, none⟩) n n R2 ∧ Still w0 w3) := hid ⟨H2.out.1, H3.out, H2.out.2.2.1.still h3, H2.out.2.2.2.trans h3⟩
          clear H2 H3 h3 hne hz
          go_wp2_with fail
          go_roundw
          case rel => exact ⟨i + 1, R2, by omega, by omega, by go_num, H4⟩
          case measure => simp [intOf]; omega
        · have hmn : m < n := by omega
          have hmn1 : m + 1 < n := by omega
          have hlen := H2.out.1.len
          have ca := H2.out.2.2.1.rd.byte (k := m + 1) (by omega)
          have cb := H2.out.2.2.1.rd.byte (k := m) (by omega)
          rw [Nat.zero_add] at ca cb
          rw [show R2[m + 1]'(by omega) = R2.getD (m + 1) 0 by simp [List.getD, hlen, hmn1]] at ca
          rw [show R2[m]'(by omega) = R2.getD m 0 by simp [List.getD, hlen, hmn]] at cb
          have HC := hid (fun z : Aft wr => ahead_at (cap := cap) HR.out H2.out.2.2.2 H2.out.1 hmn1 hmn z)
          have HN := hid (cfL_neg L (pl R2 (m + 1)) (pl R2 m))
          obtain ⟨x, ex⟩ : ∃ x, R2.getD (m + 1) 0 = x := ⟨_, rfl⟩
          obtain ⟨y, ey⟩ : ∃ y, R2.getD m 0 = y := ⟨_, rfl⟩
          obtain ⟨v, ev⟩ : ∃ v, cfL L (pl R2 (m + 1)) (pl R2 m) = v := ⟨_, rfl⟩
          rw [ex] at ca HC
          rw [ey] at cb HC
          rw [ev] at HC HN
          have la := Cl.cell ca
          have lb := Cl.cell cb
          have hne := Aft.here wr
          have z1 : ((m : Int) + 1).toNat = m + 1 := by omega
          have z2 : decide ((m : Int) + 1 > 0) = true := decide_eq_true (by omega)
          have z3 : (m : Int) + 1 < (n : Int) := by omega
          have z4 : (m : Int) < (n : Int) := by omega
          have z5 : (0 : Int) ≤ (m : Int) + 1 := by omega
          have z6 : IntKind.i64.wrap ((m : Int) + 1) = (m : Int) + 1 := by rw [IntKind.wrap_i64]; omega
          clear ex ey ev ca cb
          cases hb : ahd L (pl R2 (m + 1)) (pl R2 m) with
          | false =>
            have H3 := hid (ins_stop H2.out.1 hin hj H2.out.2.1 (.inr hb))
            rw [hb] at HN
            have hv := HN.out
            clear hb HN
            go_upto_region 4 with fail
            refine region_all (by kernel_rfl) (by kernel_rfl) ?_
            repeat (go_big_quiet_step ((first | (go_at_call 25; with_reducible exact Calls.cl (HC.out _)))))
            refine wpQuiet_nil ?_
            intro w3 h3
            have H4 : Hid (Plc n R2 ∧ Srt L R2 (i + 1) ∧ OwI 3 w3 (some ⟨g, 0, none⟩) n n R2 ∧ Still w0 w3) := hid ⟨H2.out.1, H3.out, H2.out.2.2.1.still h3, H2.out.2.2.2.trans h3⟩
            clear H2 H3 h3 hne HC la lb
            go_wp2_with fail
            go_roundw
            case rel => exact ⟨i + 1, R2, by omega, by omega, by go_num, H4⟩
            case measure => simp [intOf]; omega
          | true =>
            have H3 := hid (ins_step H2.out.1 hin hj H2.out.2.1 hb)
            rw [hb] at HN
            have hv := HN.out
            clear hb HN
            go_upto_region 4 with fail
            refine region_all (by kernel_rfl) (by kernel_rfl) ?_
            repeat (go_big_quiet_step ((first | (go_at_call 25; with_reducible exact Calls.cl (HC.out _)))))
            refine wpQuiet_nil ?_
            intro w3 h3
            obtain ⟨a, b, c1, c2, f1, f2, ⟨v3, c3⟩, f3, RR⟩ := (H2.out.2.2.1.still h3).two (i := m + 1) (j := m) (by omega) (by omega)
            have R4 : Still w0 (((w3.setCell ⟨g, m + 1, none⟩ (.int .i64 b)).setCell ⟨g, m, none⟩ (.int .i64 a)).drew) := (((H2.out.2.2.2.trans h3).setCell _ _ (.inr hg)).setCell _ _ (.inr hg)).drew
            have H4 := hid (And.intro (H2.out.1.swap hmn1 hmn) (And.intro H3.out (And.intro (RR.still ((Fr.refl _ _).drew)) R4)))
            clear H2 H3 h3 hne HC la lb RR R4
            go_wp2_with fail
            go_region
            go_wp2_with fail
            go_roundw
            case rel => exact ⟨m, _, by omega, by go_num, H4⟩
            case measure => simp [intOf]
    · have hge : ¬ (i : Int) < (n : Int) := by omega
      have H2 : Hid (∃ R', Plc n R' ∧ Srt L R' n ∧ OwI 3 wr (some ⟨g, 0, none⟩) n n R' ∧ Still w0 wr) := hid ⟨R1, H1.out.1, fun a b h1 h2 => H1.out.2.1 a b h1 (by omega), H1.out.2.2⟩
      clear H1
      go_wp2_with fail
      go_end0
      exact ⟨rfl, H2.out⟩
end Go.Proofs.Ytgkojpgpnkeacaa
