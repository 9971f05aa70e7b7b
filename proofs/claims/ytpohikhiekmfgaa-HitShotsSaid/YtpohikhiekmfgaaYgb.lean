/- The program's inPlay, what is ranged over, and first. -/
import Derived.Test.YtpohikhiekmfgaaYgp
import Derived.Test.YtpohikhiekmfgaaYga
import Derived.Test.YtpohikhiekmfgaaYr
namespace Go.Proofs.Ytpohikhiekmfgaa
open Go Go.RowKit
open Pu Gp Ap Vp Np Za Ka Ja Ygp
set_option maxRecDepth 100000
attribute [local go_sem] Oper.semAt_some

/-- a slice reads these as long as what lies below n₀ stays -/
def RdN (n₀ : Nat) (w : World) (ao : Option Addr) (n : Nat) (L : List Mv) : Prop := ∀ w', Below n₀ w w' → RdG KM w' ao n L
theorem RdN.below {n₀ : Nat} {w w' : World} {ao : Option Addr} {n : Nat} {L : List Mv} (h : RdN n₀ w ao n L) (hb : Below n₀ w w') : RdN n₀ w' ao n L := fun _ k => h _ (hb.trans k)
theorem RdN.here {n₀ : Nat} {w : World} {ao : Option Addr} {n : Nat} {L : List Mv} (h : RdN n₀ w ao n L) : RdG KM w ao n L := h w (Below.refl _ _)
theorem rdN_of {w : World} {ao : Option Addr} {n : Nat} {L : List Mv} (h : RdG KM w ao n L) : RdN w.heap.size w ao n L := fun _ hb => h.still (still_of_below hb)

theorem hin_any (ao : Option Addr) (n cap : Nat) (w : World) : Calls Try.prog 48 #[.slice ao n cap] w fun e w' =>
    e = .returned (.func (.func 66) #[] #[.pointer (some ⟨w.heap.size, 0, none⟩)]) ∧ w' = w.alloc (.cells #[.slice ao n cap] 22) := by
  go_enter Try.func48, Try.ntmps48
  go_wp2_with fail
  go_ret
  exact ⟨rfl, rfl⟩
set_option maxHeartbeats 2000000 in
/-- the places in play, one by one -/
theorem hin_walk (L : List Mv) (ao : Option Addr) (n cap l Bn n₀ m : Nat) (J Jx : List (Fin L.length) → World → Prop) (W : World) (hJ : AbidesFrom W.heap.size J)
    (hY : ∀ pre x W1, J pre W1 → pre.length < (ipl L L.length).length → YieldAt Fence.wide (m - 1) Try.prog l #[.int .i64 (x.1 : Int)] W1 fun e W' =>
      (e = .returned (.bool true) ∧ J (pre ++ [x]) W' ∧ Below n₀ W1 W') ∨ (e = .returned (.bool false) ∧ Jx (pre ++ [x]) W'))
    (hn₀ : n₀ ≤ W.heap.size) (hBn : W.cell? ⟨Bn, 0, none⟩ = some (.slice ao n cap)) (hr : RdN n₀ W ao n L) (h0 : J [] W) :
    CallsIn Fence.wide m Try.prog 66 #[.func (.yield l) #[] #[], .pointer (some ⟨Bn, 0, none⟩)] W fun e W' => (∃ v, e = .returned v) ∧
      ((∃ ys, ys = ipl L L.length ∧ J ys W') ∨ (∃ pre, pre <+: ipl L L.length ∧ Jx pre W')) := by
  have HL := hid hr.here.1
  have HR := hid hr
  have hn47 : n ≤ 281474976710656 := hr.here.2.1
  have HY := hid hY
  have HJ := hid hJ
  have H0 := hid h0
  clear hr hY hJ h0
  refine callsIn_of_wp Try.func66 rfl trivial ?_ rfl
  simp only [Try.ntmps66, List.size_toArray, List.length_cons, List.length_nil, Nat.reduceAdd, Nat.reduceSub, Array.replicate_succ, Array.replicate_zero, List.push_toArray, List.append_toArray, List.nil_append, List.cons_append]
  gi_wp2
  clear hBn
  gi_loopw [7] (fun u wr => ∃ k : Nat, k ≤ n ∧ u = .int .i64 (k : Int) ∧ J (ipl L k) wr ∧ RdN n₀ wr ao n L ∧ n₀ ≤ wr.heap.size) (fun u _ => n - (intOf u).toNat)
  case atStart => exact ⟨0, by omega, rfl, H0.out, HR.out, hn₀⟩
  case round =>
    obtain ⟨k, hk, rfl, hj, hrk, hz⟩ := hrel
    clear H0
    by_cases hkn : k < n
    · have hlt : (k : Int) < (n : Int) := by omega
      obtain ⟨B, o, rfl⟩ := hrk.here.at (by omega)
      obtain ⟨c0, c1, c2, c3, c4, c5, c6, c7, c8, c9, c10, c11, c12⟩ := rdM hrk.here hkn
      have HP := hid (fun w => hplays_any (mm L k) w)
      have hkL : k < L.length := by have := HL.out; omega
      have HI := hid (fun h => ipl_in (L := L) (k := k) hkL h)
      have HO := hid (fun h => ipl_out (L := L) (k := k) hkL h)
      have HT := hid (fun h => ipl_lt (L := L) (k := k) hkL h)
      obtain ⟨x, ex⟩ : ∃ x, mm L k = x := ⟨_, rfl⟩
      rw [ex] at c0 c1 c2 c3 c4 c5 c6 c7 c8 c9 c10 c11 c12 HP HI HO HT
      obtain ⟨b, eb⟩ : ∃ b, (x.ou == 0) = b := ⟨_, rfl⟩
      rw [eb] at HP HI HO HT
      clear ex eb
      have A1 := Still.alloc wr (.cells (mcs x) 35)
      obtain ⟨d0, d1, d2, d3, d4, d5, d6, d7, d8, d9, d10, d11, d12, df⟩ := (newM_mb wr x).cells
      gi_wp2_with fail
      refine ⟨trivial, fun h => (by cases h), (callsIn_wide.2 (HP.out _)).mono ?_⟩
      rintro e w2 ⟨rfl, h2⟩
      have hs2 := A1.trans h2
      have hj2 := abides_still HJ.out hj hs2
      have hb2 : Below n₀ wr w2 := hs2.below.mono hz
      have HR2 := hid (hrk.below hb2)
      have hz2 : n₀ ≤ w2.heap.size := Nat.le_trans hz hs2.size
      clear h2 A1 hs2 hb2 hj hz hrk HP c0 c1 c2 c3 c4 c5 c6 c7 c8 c9 c10 c11 c12 d0 d1 d2 d3 d4 d5 d6 d7 d8 d9 d10 d11 d12 df
      cases b with
      | false =>
        have HE := hid (HO.out rfl)
        have HJ2 := hid hj2
        clear HO HI HT hj2
        gi_wp2_with fail
        refine ⟨fun _ h => (by cases h), ?_⟩
        gi_wp2_with fail
        go_roundw
        case rel => exact ⟨k + 1, by omega, by go_num, by rw [HE.out]; exact HJ2.out, HR2.out, hz2⟩
        case measure => simp [intOf]; omega
      | true =>
        have HE := hid (HI.out rfl)
        obtain ⟨fn, tmps, assign, body, hy, hR⟩ := HY.out (ipl L k) ⟨k, hkL⟩ w2 hj2 (HT.out rfl)
        have HR1 := hid hR
        clear HO HI HT hj2 hR
        dsimp only at hy
        gi_wp2_with fail
        refine ⟨fun h => (by cases h), HR1.out.mono ?_⟩
        rintro e w3 (⟨rfl, hj3, hk3⟩ | ⟨rfl, hx3⟩)
        · have HJ3 := hid hj3
          have HR3 := hid (HR2.out.below hk3)
          have hz3 : n₀ ≤ w3.heap.size := Nat.le_trans hz2 hk3.size
          clear hy HR1 HR2 hj3 hk3
          gi_wp2_with fail
          go_roundw
          case rel => exact ⟨k + 1, by omega, by go_num, by rw [HE.out]; exact HJ3.out, HR3.out, hz3⟩
          case measure => simp [intOf]; omega
        · have HX3 := hid hx3
          clear hy HR1 HR2 hx3
          gi_wp2_with fail
          (first | rw [Exit.noGoto_ret] | skip)
          refine bodyPost_ret (results_none rfl _ _ _) rfl ?_
          exact ⟨⟨_, rfl⟩, .inr ⟨_, by rw [← HE.out]; exact ipl_le hkL, HX3.out⟩⟩
    · have hge : ¬ (k : Int) < (n : Int) := by omega
      have HE : Hid (ipl L k = ipl L L.length) := hid (by congr; have := HL.out; omega)
      have HJ1 := hid hj
      clear hkn hj hrk
      gi_wp2_with fail
      go_end0
      have hJE : J (ipl L L.length) wr := by rw [← HE.out]; exact HJ1.out
      exact ⟨⟨_, rfl⟩, .inl hJE⟩
theorem hin_stops (L : List Mv) (ao : Option Addr) (n cap Bn n₀ m : Nat) (w : World) (hBn : Bn < w.heap.size) (hn₀ : n₀ ≤ w.heap.size) (hc : w.cell? ⟨Bn, 0, none⟩ = some (.slice ao n cap)) (hr : RdN n₀ w ao n L) :
    SeqStopsK Fence.wide m Try.prog 66 #[.pointer (some ⟨Bn, 0, none⟩)] (fun x : Fin L.length => #[Value.int .i64 (x.1 : Int)]) (Below n₀) (fun ys => ys = ipl L L.length) (fun pre => pre <+: ipl L L.length) (ipl L L.length).length w :=
  fun l J Jx W hW hJ _ hY h0 => hin_walk L ao n cap l Bn n₀ m J Jx W hJ hY (Nat.le_trans hn₀ hW.size) ((hW.cell (p := ⟨Bn, 0, none⟩) hBn).trans hc) (hr.below (hW.mono hn₀)) h0
end Go.Proofs.Ytpohikhiekmfgaa
