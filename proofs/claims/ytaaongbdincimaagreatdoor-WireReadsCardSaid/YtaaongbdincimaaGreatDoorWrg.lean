/- The program's parse. -/
import Derived.Test.YtaaongbdincimaaGreatDoorWrf
namespace Go.Proofs.YtaaongbdincimaaGreatDoor
open Go.RowKit
open Wp Vp
set_option maxRecDepth 100000
set_option linter.unusedVariables false
set_option linter.unusedSimpArgs false


set_option maxHeartbeats 4000000 in
theorem parse_l1 (B : Nat) (a0 a1 a2 : Addr) (ao : Option Addr) (n cap : Nat) (h1 : (16384 : Int) < (n : Int)) (hsm : n ≤ maxLen) (w : World) (hE : ETab w B a0 a1 a2) :
    Calls Tryz.prog 26 #[.slice ao n cap] w fun e w' => PrsR w w' a0 a1 a2 (zD, 160) e := by
  have A0 := Still.alloc w (.cells #[.int .i64 0, .int .u64 0, .int .i64 0, .int .i64 0, .int .i64 0, .int .i64 0, .slice none 0 0, .int .i64 0] 25)
  have HIa0 : Hid (∀ u, Still w u → u.cell? ⟨0, 0, none⟩ = some (efv a0)) := hid (fun u hu => (hE.still hu).g0)
  have HIa1 : Hid (∀ u, Still w u → u.cell? ⟨1, 0, none⟩ = some (efv a1)) := hid (fun u hu => (hE.still hu).g1)
  have HIa2 : Hid (∀ u, Still w u → u.cell? ⟨2, 0, none⟩ = some (efv a2)) := hid (fun u hu => (hE.still hu).g2)
  have HD0 : Hid (Dgb (w.alloc (.cells #[.int .i64 0, .int .u64 0, .int .i64 0, .int .i64 0, .int .i64 0, .int .i64 0, .slice none 0 0, .int .i64 0] 25)) w.heap.size zD none 0 0) := hid (newDg_b w zD none 0 0)
  have HA := hid A0
  clear hE A0
  go_enter Tryz.func26, Tryz.ntmps26
  go_wp2_with fail
  refine region_I (fun u => u.cell? ⟨0, 0, none⟩ = some (efv a0)) (by kernel_rfl) ?_
  refine wpAnyI_take (i := 0) (v := ?tv1_1) rfl rfl (by kernel_rfl) (by kernel_rfl) (by kernel_rfl) (fun _ _ _ h => h) (fun u hu => ?ty1_1) ?tk1_1
  case ty1_1 => (go_simp; try rfl)
  refine wpAnyI_take (i := 1) (v := ?tv2_1) rfl rfl (by kernel_rfl) (by kernel_rfl) (by kernel_rfl) (fun _ _ _ h => h) (fun u hu => ?ty2_1) ?tk2_1
  case ty2_1 => (go_simp; try rfl)
  refine wpAnyI_ready (HIa0.out _ (HA.out.trans ((Fr.refl _ _).drew))) (rs := [2]) (by kernel_rfl) (by simp) ?_
  refine AllI.cons rfl rfl (fun K hK => ?_) AllI.nil
  go_simp
  refine hK _ _ ?_
  clear hK K
  refine wpAnyI_take (i := 3) (v := ?tv3_1) rfl rfl (by kernel_rfl) (by kernel_rfl) (by kernel_rfl) (fun _ _ _ h => h) (fun u hu => ?ty3_1) ?tk3_1
  case ty3_1 => (go_simp; try rfl)
  refine wpAnyI_done (HIa0.out _ (HA.out.trans ((Fr.refl _ _).drew))) (by kernel_rfl) ?_ _
  go_wp2_with fail
  exact bodyPost_ret (((HD0.out).still ((Fr.refl _ _).drew)).rest rfl _ _ rfl rfl) rfl ⟨none, 0, 0, rfl, OwG.nil _ _, HA.out.trans ((Fr.refl _ _).drew)⟩
set_option maxHeartbeats 4000000 in
theorem parse_l2 (B : Nat) (a0 a1 a2 : Addr) (ao : Option Addr) (n cap : Nat) (h1 : ¬ (16384 : Int) < (n : Int)) (h2 : (n : Int) < 8) (hsm : n ≤ maxLen) (w : World) (hE : ETab w B a0 a1 a2) :
    Calls Tryz.prog 26 #[.slice ao n cap] w fun e w' => PrsR w w' a0 a1 a2 (zD, 160) e := by
  have A0 := Still.alloc w (.cells #[.int .i64 0, .int .u64 0, .int .i64 0, .int .i64 0, .int .i64 0, .int .i64 0, .slice none 0 0, .int .i64 0] 25)
  have HIa0 : Hid (∀ u, Still w u → u.cell? ⟨0, 0, none⟩ = some (efv a0)) := hid (fun u hu => (hE.still hu).g0)
  have HIa1 : Hid (∀ u, Still w u → u.cell? ⟨1, 0, none⟩ = some (efv a1)) := hid (fun u hu => (hE.still hu).g1)
  have HIa2 : Hid (∀ u, Still w u → u.cell? ⟨2, 0, none⟩ = some (efv a2)) := hid (fun u hu => (hE.still hu).g2)
  have HD0 : Hid (Dgb (w.alloc (.cells #[.int .i64 0, .int .u64 0, .int .i64 0, .int .i64 0, .int .i64 0, .int .i64 0, .slice none 0 0, .int .i64 0] 25)) w.heap.size zD none 0 0) := hid (newDg_b w zD none 0 0)
  have HA := hid A0
  clear hE A0
  go_enter Tryz.func26, Tryz.ntmps26
  go_wp2_with fail
  refine region_I (fun u => u.cell? ⟨0, 0, none⟩ = some (efv a0)) (by kernel_rfl) ?_
  refine wpAnyI_take (i := 0) (v := ?tv4_2) rfl rfl (by kernel_rfl) (by kernel_rfl) (by kernel_rfl) (fun _ _ _ h => h) (fun u hu => ?ty4_2) ?tk4_2
  case ty4_2 => (go_simp; try rfl)
  refine wpAnyI_take (i := 1) (v := ?tv5_2) rfl rfl (by kernel_rfl) (by kernel_rfl) (by kernel_rfl) (fun _ _ _ h => h) (fun u hu => ?ty5_2) ?tk5_2
  case ty5_2 => (go_simp; try rfl)
  refine wpAnyI_ready (HIa0.out _ (HA.out.trans ((Fr.refl _ _).drew))) (rs := [2]) (by kernel_rfl) (by simp) ?_
  refine AllI.cons rfl rfl (fun K hK => ?_) AllI.nil
  go_simp
  refine hK _ _ ?_
  clear hK K
  refine wpAnyI_take (i := 3) (v := ?tv6_2) rfl rfl (by kernel_rfl) (by kernel_rfl) (by kernel_rfl) (fun _ _ _ h => h) (fun u hu => ?ty6_2) ?tk6_2
  case ty6_2 => (go_simp; try rfl)
  refine wpAnyI_done (HIa0.out _ (HA.out.trans ((Fr.refl _ _).drew))) (by kernel_rfl) ?_ _
  go_wp2_with fail
  exact bodyPost_ret (((HD0.out).still ((Fr.refl _ _).drew)).rest rfl _ _ rfl rfl) rfl ⟨none, 0, 0, rfl, OwG.nil _ _, HA.out.trans ((Fr.refl _ _).drew)⟩
theorem parse_len (B : Nat) (a0 a1 a2 : Addr) (ao : Option Addr) (n cap : Nat) (b : List UInt8) (hb : 16384 < b.length ∨ b.length < 8) (w : World) (hr : Rd w ao n cap b) (hE : ETab w B a0 a1 a2) :
    Calls Tryz.prog 26 #[.slice ao n cap] w fun e w' => PrsR w w' a0 a1 a2 (dec16 b) e := by
  rw [dec_len hb]
  have hln := hr.len
  have hm : n ≤ maxLen := Nat.le_trans hr.le hr.max
  by_cases h1 : (16384 : Int) < (n : Int)
  · exact parse_l1 B a0 a1 a2 ao n cap h1 hm w hE
  · exact parse_l2 B a0 a1 a2 ao n cap h1 (by omega) hm w hE
/-- a reader in new memory stays -/
theorem Rz.later {w1 w2 w3 : World} {q p : Nat} {ef : Addr} {s : Rs} {F : Nat → Prop} (h : Rz w1 q p ef s) (h12 : Still w1 w2) (hf : Fr F w2 w3) (hF : ∀ k, F k → w1.heap.size ≤ k) : Rz w3 q p ef s := h.still (Fr.trans h12 hf (fun k hk e => by have := hF k e; omega))
set_option maxHeartbeats 4000000 in
theorem parse_sum (B : Nat) (a0 a1 a2 : Addr) (ao : Option Addr) (n cap : Nat) (b : List UInt8) (hb : ¬ (16384 < b.length ∨ b.length < 8)) (hs : sumZ (b.take (b.length - 8)) ≠ b.drop (b.length - 8)) (w : World) (ht : FTab w) (hr : Rd w ao n cap b) (hE : ETab w B a0 a1 a2) :
    Calls Tryz.prog 26 #[.slice ao n cap] w fun e w' => PrsR w w' a0 a1 a2 (zD, 161) e := by
  have A0 := Still.alloc w (.cells #[.int .i64 0, .int .u64 0, .int .i64 0, .int .i64 0, .int .i64 0, .int .i64 0, .slice none 0 0, .int .i64 0] 25)
  have HIa0 : Hid (∀ u, Still w u → u.cell? ⟨0, 0, none⟩ = some (efv a0)) := hid (fun u hu => (hE.still hu).g0)
  have HIa1 : Hid (∀ u, Still w u → u.cell? ⟨1, 0, none⟩ = some (efv a1)) := hid (fun u hu => (hE.still hu).g1)
  have HIa2 : Hid (∀ u, Still w u → u.cell? ⟨2, 0, none⟩ = some (efv a2)) := hid (fun u hu => (hE.still hu).g2)
  have HD0 : Hid (Dgb (w.alloc (.cells #[.int .i64 0, .int .u64 0, .int .i64 0, .int .i64 0, .int .i64 0, .int .i64 0, .slice none 0 0, .int .i64 0] 25)) w.heap.size zD none 0 0) := hid (newDg_b w zD none 0 0)
  have HA := hid A0
  have hln := hr.len
  have hsm := hr.small
  have h1 : ¬ (16384 : Int) < (n : Int) := by omega
  have h2 : ¬ (n : Int) < 8 := by omega
  obtain ⟨i0, hi0, hz0, hs10, hb10⟩ := info_parts info_u8
  have hcap := hr.le
  have hwn : IntKind.i64.wrap ((n : Int) - 8) = (n : Int) - 8 := wr64 (by omega) (by omega)
  have hsu : ∀ W' : World, (Instr.slice 31 (.slice ao n cap) none (some (.int .i64 ((n : Int) - 8))) none).run Tryz.prog W' = .ok (.slice ao (n - 8) cap) W' := fun W' => by
    have := run_upto (P := Tryz.prog) W' 31 5 i0 Tryz.underlying31 hi0 hs10 .i64 ao n cap ((n : Int) - 8) (by omega) (by omega)
    rw [this, show ((n : Int) - 8).toNat = n - 8 by omega]
  have hsf : ∀ W' : World, (Instr.slice 31 (.slice ao n cap) (some (.int .i64 ((n : Int) - 8))) none none).run Tryz.prog W' = .ok (.slice (cutAt ao cap (n - 8)) 8 (cap - (n - 8))) W' := fun W' => by
    have := run_from (P := Tryz.prog) W' 31 5 i0 Tryz.underlying31 hi0 hs10 .i64 ao n cap ((n : Int) - 8) (by omega) (by omega)
    rw [this, show ((n : Int) - 8).toNat = n - 8 by omega, show n - (n - 8) = 8 by omega]
  have HRa : Hid (∀ u, Still w u → Rd u ao (n - 8) cap (b.take (n - 8))) := hid (fun u hu => (hr.take (by omega)).still hu)
  have HRt : Hid (∀ u, Still w u → Rd u (cutAt ao cap (n - 8)) 8 (cap - (n - 8)) (b.drop (n - 8))) := hid (fun u hu => by
    have := (hr.drop (i := n - 8) (by omega)).still hu
    rwa [show n - (n - 8) = 8 by omega] at this)
  have HTb : Hid (∀ u, Still w u → FTab u) := hid (fun u hu => ht.still hu)
  obtain ⟨m, hm, em⟩ := ofI_inZ (b.take (n - 8))
  obtain ⟨m', hm', em'⟩ := sumF_all (b.drop (n - 8))
  have hl8 : (b.drop (n - 8)).length = 8 := by rw [List.length_drop]; omega
  rw [hl8] at hm' em'
  have HFu : Hid (fuM 8 0 0 ⟨b.drop (n - 8), 0, false⟩ = (m', ⟨[], 0, false⟩)) := hid (by rw [em']; exact full_of hm')
  have HSm : Hid (sumZ (b.take (n - 8)) = b.drop (n - 8) ↔ m' = m) := hid (by
    unfold sumZ
    rw [em, em', Int.toNat_natCast]
    constructor
    · intro h; exact (sumF_inj (by omega) hm' h).symm
    · rintro rfl; rfl)
  have HOf : Hid (ofI (b.take (n - 8)) = (m : Int)) := hid em
  obtain ⟨bt, ebt⟩ : ∃ x, b.take (n - 8) = x := ⟨_, rfl⟩
  obtain ⟨bd, ebd⟩ : ∃ x, b.drop (n - 8) = x := ⟨_, rfl⟩
  have HDe : Hid (¬ (16384 < b.length ∨ b.length < 8) ∧ b.take (b.length - 8) = bt ∧ b.drop (b.length - 8) = bd) := hid ⟨hb, by rw [hln]; exact ebt, by rw [hln]; exact ebd⟩
  rw [ebt] at HRa HSm HOf
  rw [ebd] at HRt HFu HSm
  obtain ⟨W, eW⟩ : ∃ W, w.alloc (.cells #[.int .i64 0, .int .u64 0, .int .i64 0, .int .i64 0, .int .i64 0, .int .i64 0, .slice none 0 0, .int .i64 0] 25) = W := ⟨_, rfl⟩
  obtain ⟨g2, eg2⟩ : ∃ g, w.heap.size = g := ⟨_, rfl⟩
  rw [eW] at HD0 HA
  rw [eg2] at HD0
  have HG2 := hid eg2
  have HWs : Hid (g2 < W.heap.size) := hid (block_lt HD0.out)
  clear hr ht hE A0 hb hln em em' hl8 ebt ebd
  go_enter Tryz.func26, Tryz.ntmps26
  go_wp2_with fail
  have HSd : Hid (Still w W.drew) := hid (HA.out.trans ((Fr.refl _ W).drew))
  have HN1 := hid (newR_any a0 ao (n - 8) cap bt W.drew (HRa.out _ HSd.out) (by omega) (HIa0.out _ HSd.out))
  clear eW eg2
  refine region_I (fun _ => True) (by kernel_rfl) ?_
  refine wpAnyI_take (i := 0) (v := ?tv7_3) rfl rfl (by kernel_rfl) (by kernel_rfl) (by kernel_rfl) (fun _ _ _ h => h) (fun u hu => ?ty7_3) ?tk7_3
  case ty7_3 => (go_simp; try rfl)
  refine wpAnyI_take (i := 1) (v := ?tv8_3) rfl rfl (by kernel_rfl) (by kernel_rfl) (by kernel_rfl) (fun _ _ _ h => h) (fun u hu => ?ty8_3) ?tk8_3
  case ty8_3 => (go_simp; try rfl)
  refine wpAnyI_take (i := 2) (v := ?tv9_3) rfl rfl (by kernel_rfl) (by kernel_rfl) (by kernel_rfl) (fun _ _ _ h => h) (fun u hu => ?ty9_3) ?tk9_3
  case ty9_3 => (go_simp; try rfl)
  refine wpAnyI_take (i := 3) (v := ?tv10_3) rfl rfl (by kernel_rfl) (by kernel_rfl) (by kernel_rfl) (fun _ _ _ h => h) (fun u hu => ?ty10_3) ?tk10_3
  case ty10_3 => (go_simp; try rfl)
  refine wpAnyI_take (i := 4) (v := ?tv11_3) rfl rfl (by kernel_rfl) (by kernel_rfl) (by kernel_rfl) (fun _ _ _ h => h) (fun u hu => ?ty11_3) ?tk11_3
  case ty11_3 => (go_simp; try rfl)
  refine wpAnyI_take (i := 6) (v := ?tv12_3) rfl rfl (by kernel_rfl) (by kernel_rfl) (by kernel_rfl) (fun _ _ _ h => h) (fun u hu => ?ty12_3) ?tk12_3
  case ty12_3 => (go_simp; try rfl)
  refine wpAnyI_take (i := 7) (v := ?tv13_3) rfl rfl (by kernel_rfl) (by kernel_rfl) (by kernel_rfl) (fun _ _ _ h => h) (fun u hu => ?ty13_3) ?tk13_3
  case ty13_3 => (go_simp; try rfl)
  refine wpAnyI_take (i := 8) (v := ?tv14_3) rfl rfl (by kernel_rfl) (by kernel_rfl) (by kernel_rfl) (fun _ _ _ h => h) (fun u hu => ?ty14_3) ?tk14_3
  case ty14_3 => (go_simp; try rfl)
  refine wpAnyI_take (i := 9) (v := ?tv15_3) rfl rfl (by kernel_rfl) (by kernel_rfl) (by kernel_rfl) (fun _ _ _ h => h) (fun u hu => ?ty15_3) ?tk15_3
  case ty15_3 => (go_simp; try rfl)
  refine wpAnyI_take (i := 10) (v := ?tv16_3) rfl rfl (by kernel_rfl) (by kernel_rfl) (by kernel_rfl) (fun _ _ _ h => h) (fun u hu => ?ty16_3) ?tk16_3
  case ty16_3 => (go_simp; try rfl)
  refine wpAnyI_ready trivial (rs := [5]) (by kernel_rfl) (by simp) ?_
  refine AllI.cons rfl rfl (fun K hK => ?_) AllI.nil
  go_simp
  refine HN1.out.mono ?_
  rintro e w1 ⟨q1, p1, he, hqp1, hz1, hs1⟩
  rw [he]
  have HS1 := hid (HSd.out.trans hs1)
  have HZ1 := hid hz1
  have HQ1 := hid hqp1
  have HN2 := hid (newR_any a0 (cutAt ao cap (n - 8)) 8 (cap - (n - 8)) bd w1 (HRt.out _ (HSd.out.trans hs1)) (by omega) (HIa0.out _ (HSd.out.trans hs1)))
  have HGs1 : Hid (Still W w1) := hid (Still.trans ((Fr.refl _ W).drew) hs1)
  clear he hz1 hs1 hqp1 HN1
  refine hK _ _ ?_
  clear hK K
  refine wpAnyI_ready trivial (rs := [11]) (by kernel_rfl) (by simp) ?_
  refine AllI.cons rfl rfl (fun K hK => ?_) AllI.nil
  go_simp
  refine HN2.out.mono ?_
  rintro e w2 ⟨q2, p2, he, hqp2, hz2, hs2⟩
  rw [he]
  have HS2 := hid hs2
  have HZ2 := hid hz2
  have HQ2 := hid hqp2
  clear he hz2 hs2 hqp2 HN2
  refine hK _ _ ?_
  clear hK K
  refine wpAnyI_take (i := 12) (v := ?tv17_3) rfl rfl (by kernel_rfl) (by kernel_rfl) (by kernel_rfl) (fun _ _ _ h => h) (fun u hu => ?ty17_3) ?tk17_3
  case ty17_3 => (go_simp; try rfl)
  refine wpAnyI_take (i := 13) (v := ?tv18_3) rfl rfl (by kernel_rfl) (by kernel_rfl) (by kernel_rfl) (fun _ _ _ h => h) (fun u hu => ?ty18_3) ?tk18_3
  case ty18_3 => (go_simp; try rfl)
  refine wpAnyI_done trivial (by kernel_rfl) ?_ _
  have HF2 := hid (yfull_any q2 p2 a0 ⟨bd, 0, false⟩ w2.drew (HZ2.out.still ((Fr.refl _ w2).drew)))
  rw [HFu.out] at HF2
  dsimp only at HF2
  go_wp2_with fail
  refine region_I (fun _ => True) (by kernel_rfl) ?_
  refine wpAnyI_take (i := 0) (v := ?tv19_3) rfl rfl (by kernel_rfl) (by kernel_rfl) (by kernel_rfl) (fun _ _ _ h => h) (fun u hu => ?ty19_3) ?tk19_3
  case ty19_3 => (go_simp; try rfl)
  refine wpAnyI_take (i := 2) (v := ?tv20_3) rfl rfl (by kernel_rfl) (by kernel_rfl) (by kernel_rfl) (fun _ _ _ h => h) (fun u hu => ?ty20_3) ?tk20_3
  case ty20_3 => (go_simp; try rfl)
  refine wpAnyI_take (i := 3) (v := ?tv21_3) rfl rfl (by kernel_rfl) (by kernel_rfl) (by kernel_rfl) (fun _ _ _ h => h) (fun u hu => ?ty21_3) ?tk21_3
  case ty21_3 => (go_simp; try rfl)
  refine wpAnyI_take (i := 4) (v := ?tv22_3) rfl rfl (by kernel_rfl) (by kernel_rfl) (by kernel_rfl) (fun _ _ _ h => h) (fun u hu => ?ty22_3) ?tk22_3
  case ty22_3 => (go_simp; try rfl)
  refine wpAnyI_take (i := 5) (v := ?tv23_3) rfl rfl (by kernel_rfl) (by kernel_rfl) (by kernel_rfl) (fun _ _ _ h => h) (fun u hu => ?ty23_3) ?tk23_3
  case ty23_3 => (go_simp; try rfl)
  refine wpAnyI_take (i := 6) (v := ?tv24_3) rfl rfl (by kernel_rfl) (by kernel_rfl) (by kernel_rfl) (fun _ _ _ h => h) (fun u hu => ?ty24_3) ?tk24_3
  case ty24_3 => (go_simp; try rfl)
  refine wpAnyI_ready trivial (rs := [1]) (by kernel_rfl) (by simp) ?_
  refine AllI.cons rfl rfl (fun K hK => ?_) AllI.nil
  go_simp
  refine HF2.out.mono ?_
  rintro e w3 ⟨he, hz3⟩
  rw [he]
  have hRF : ∀ k, RF q2 p2 k → w1.heap.size ≤ k := fun k hk => by have := HQ2.out; rcases hk with hk | hk <;> omega
  have HS3 : Hid (Still w1 w3) := hid (Fr.trans (HS2.out.trans ((Fr.refl _ w2).drew)) hz3.f (fun k hk e => by have := hRF k e; omega))
  have HO3 := hid (dof_any ao (n - 8) cap bt w3 (HRa.out _ (HS1.out.trans HS3.out)) (HTb.out _ (HS1.out.trans HS3.out)))
  rw [HOf.out] at HO3
  clear he hz3 HF2 hRF
  refine hK _ _ ?_
  clear hK K
  refine wpAnyI_ready trivial (rs := [7]) (by kernel_rfl) (by simp) ?_
  refine AllI.cons rfl rfl (fun K hK => ?_) AllI.nil
  go_simp
  refine HO3.out.mono ?_
  rintro e w4 ⟨he, hs4⟩
  rw [he]
  have HS4 := hid (HS3.out.trans hs4)
  clear he hs4 HO3 HS3
  refine hK _ _ ?_
  clear hK K
  have hne : m' ≠ m := fun e => hs (by rw [HDe.out.2.1, HDe.out.2.2]; exact HSm.out.2 e)
  have hneb : ((m' : Int) == (m : Int)) = false := by simp; omega
  have hnec : (m' == m) = false := by simpa using hne
  refine wpAnyI_take (i := 8) (v := ?tv28_3) rfl rfl (by kernel_rfl) (by kernel_rfl) (by kernel_rfl) (fun _ _ _ h => h) (fun u hu => ?ty28_3) ?tk28_3
  case ty28_3 => (go_simp; try rfl)
  refine wpAnyI_done trivial (by kernel_rfl) ?_ _
  have HS5 := hid (HS1.out.trans HS4.out)
  have HD5 := hid (HD0.out.still (HGs1.out.trans HS4.out))
  go_wp2_with fail
  refine region_I (fun u => u.cell? ⟨1, 0, none⟩ = some (efv a1)) (by kernel_rfl) ?_
  refine wpAnyI_take (i := 0) (v := ?tv25_3) rfl rfl (by kernel_rfl) (by kernel_rfl) (by kernel_rfl) (fun _ _ _ h => h) (fun u hu => ?ty25_3) ?tk25_3
  case ty25_3 => (go_simp; try rfl)
  refine wpAnyI_take (i := 1) (v := ?tv26_3) rfl rfl (by kernel_rfl) (by kernel_rfl) (by kernel_rfl) (fun _ _ _ h => h) (fun u hu => ?ty26_3) ?tk26_3
  case ty26_3 => (go_simp; try rfl)
  refine wpAnyI_ready (HIa1.out _ (HS5.out.trans ((Fr.refl _ _).drew))) (rs := [2]) (by kernel_rfl) (by simp) ?_
  refine AllI.cons rfl rfl (fun K hK => ?_) AllI.nil
  obtain ⟨f0, f1, f2, f3, f4, f5, f6, f7, ff⟩ := HD5.out.cells
  have j0 := ff 0
  have j1 := ff 1
  have j2 := ff 2
  have j3 := ff 3
  have j4 := ff 4
  have j5 := ff 5
  have j6 := ff 6
  have j7 := ff 7
  go_simp
  refine hK _ _ ?_
  clear hK K
  refine wpAnyI_take (i := 3) (v := ?tv27_3) rfl rfl (by kernel_rfl) (by kernel_rfl) (by kernel_rfl) (fun _ _ _ h => h) (fun u hu => ?ty27_3) ?tk27_3
  case ty27_3 => (go_simp; try rfl)
  have HFs : Hid (Still w (setDg w4 g2 zD none 0 0).drew) := hid (Fr.drew (Fr.trans HS5.out (setDg_fr (Fr.refl (fun k => k = g2) _) g2 zD none 0 0 (.inl rfl)) (fun k hk e => by have := HG2.out; omega)))
  refine wpAnyI_done (HIa1.out _ HFs.out) (by kernel_rfl) ?_ _
  go_wp2_with fail
  exact bodyPost_ret ((((HD5.out).set zD none 0 0).still ((Fr.refl _ _).drew)).rest rfl _ _ rfl rfl) rfl ⟨none, 0, 0, rfl, OwG.nil _ _, HFs.out⟩

set_option maxHeartbeats 4000000 in
theorem parse_none (B : Nat) (a0 a1 a2 : Addr) (ao : Option Addr) (n cap : Nat) (b : List UInt8) (hb : ¬ (16384 < b.length ∨ b.length < 8)) (hs : sumZ (b.take (b.length - 8)) = b.drop (b.length - 8)) (hd : saysD (b.take (b.length - 8)) = none) (w : World) (ht : FTab w) (hr : Rd w ao n cap b) (hE : ETab w B a0 a1 a2) :
    Calls Tryz.prog 26 #[.slice ao n cap] w fun e w' => PrsR w w' a0 a1 a2 (zD, 160) e := by
  have A0 := Still.alloc w (.cells #[.int .i64 0, .int .u64 0, .int .i64 0, .int .i64 0, .int .i64 0, .int .i64 0, .slice none 0 0, .int .i64 0] 25)
  have HIa0 : Hid (∀ u, Still w u → u.cell? ⟨0, 0, none⟩ = some (efv a0)) := hid (fun u hu => (hE.still hu).g0)
  have HIa1 : Hid (∀ u, Still w u → u.cell? ⟨1, 0, none⟩ = some (efv a1)) := hid (fun u hu => (hE.still hu).g1)
  have HIa2 : Hid (∀ u, Still w u → u.cell? ⟨2, 0, none⟩ = some (efv a2)) := hid (fun u hu => (hE.still hu).g2)
  have HD0 : Hid (Dgb (w.alloc (.cells #[.int .i64 0, .int .u64 0, .int .i64 0, .int .i64 0, .int .i64 0, .int .i64 0, .slice none 0 0, .int .i64 0] 25)) w.heap.size zD none 0 0) := hid (newDg_b w zD none 0 0)
  have HA := hid A0
  have hln := hr.len
  have hsm := hr.small
  have h1 : ¬ (16384 : Int) < (n : Int) := by omega
  have h2 : ¬ (n : Int) < 8 := by omega
  obtain ⟨i0, hi0, hz0, hs10, hb10⟩ := info_parts info_u8
  have hcap := hr.le
  have hwn : IntKind.i64.wrap ((n : Int) - 8) = (n : Int) - 8 := wr64 (by omega) (by omega)
  have hsu : ∀ W' : World, (Instr.slice 31 (.slice ao n cap) none (some (.int .i64 ((n : Int) - 8))) none).run Tryz.prog W' = .ok (.slice ao (n - 8) cap) W' := fun W' => by
    have := run_upto (P := Tryz.prog) W' 31 5 i0 Tryz.underlying31 hi0 hs10 .i64 ao n cap ((n : Int) - 8) (by omega) (by omega)
    rw [this, show ((n : Int) - 8).toNat = n - 8 by omega]
  have hsf : ∀ W' : World, (Instr.slice 31 (.slice ao n cap) (some (.int .i64 ((n : Int) - 8))) none none).run Tryz.prog W' = .ok (.slice (cutAt ao cap (n - 8)) 8 (cap - (n - 8))) W' := fun W' => by
    have := run_from (P := Tryz.prog) W' 31 5 i0 Tryz.underlying31 hi0 hs10 .i64 ao n cap ((n : Int) - 8) (by omega) (by omega)
    rw [this, show ((n : Int) - 8).toNat = n - 8 by omega, show n - (n - 8) = 8 by omega]
  have HRa : Hid (∀ u, Still w u → Rd u ao (n - 8) cap (b.take (n - 8))) := hid (fun u hu => (hr.take (by omega)).still hu)
  have HRt : Hid (∀ u, Still w u → Rd u (cutAt ao cap (n - 8)) 8 (cap - (n - 8)) (b.drop (n - 8))) := hid (fun u hu => by
    have := (hr.drop (i := n - 8) (by omega)).still hu
    rwa [show n - (n - 8) = 8 by omega] at this)
  have HTb : Hid (∀ u, Still w u → FTab u) := hid (fun u hu => ht.still hu)
  obtain ⟨m, hm, em⟩ := ofI_inZ (b.take (n - 8))
  obtain ⟨m', hm', em'⟩ := sumF_all (b.drop (n - 8))
  have hl8 : (b.drop (n - 8)).length = 8 := by rw [List.length_drop]; omega
  rw [hl8] at hm' em'
  have HFu : Hid (fuM 8 0 0 ⟨b.drop (n - 8), 0, false⟩ = (m', ⟨[], 0, false⟩)) := hid (by rw [em']; exact full_of hm')
  have HSm : Hid (sumZ (b.take (n - 8)) = b.drop (n - 8) ↔ m' = m) := hid (by
    unfold sumZ
    rw [em, em', Int.toNat_natCast]
    constructor
    · intro h; exact (sumF_inj (by omega) hm' h).symm
    · rintro rfl; rfl)
  have HOf : Hid (ofI (b.take (n - 8)) = (m : Int)) := hid em
  obtain ⟨bt, ebt⟩ : ∃ x, b.take (n - 8) = x := ⟨_, rfl⟩
  obtain ⟨bd, ebd⟩ : ∃ x, b.drop (n - 8) = x := ⟨_, rfl⟩
  have HDe : Hid (¬ (16384 < b.length ∨ b.length < 8) ∧ b.take (b.length - 8) = bt ∧ b.drop (b.length - 8) = bd) := hid ⟨hb, by rw [hln]; exact ebt, by rw [hln]; exact ebd⟩
  rw [ebt] at HRa HSm HOf
  rw [ebd] at HRt HFu HSm
  obtain ⟨W, eW⟩ : ∃ W, w.alloc (.cells #[.int .i64 0, .int .u64 0, .int .i64 0, .int .i64 0, .int .i64 0, .int .i64 0, .slice none 0 0, .int .i64 0] 25) = W := ⟨_, rfl⟩
  obtain ⟨g2, eg2⟩ : ∃ g, w.heap.size = g := ⟨_, rfl⟩
  rw [eW] at HD0 HA
  rw [eg2] at HD0
  have HG2 := hid eg2
  have HWs : Hid (g2 < W.heap.size) := hid (block_lt HD0.out)
  clear hr ht hE A0 hb hln em em' hl8 ebt ebd
  go_enter Tryz.func26, Tryz.ntmps26
  go_wp2_with fail
  have HSd : Hid (Still w W.drew) := hid (HA.out.trans ((Fr.refl _ W).drew))
  have HN1 := hid (newR_any a0 ao (n - 8) cap bt W.drew (HRa.out _ HSd.out) (by omega) (HIa0.out _ HSd.out))
  clear eW eg2
  refine region_I (fun _ => True) (by kernel_rfl) ?_
  refine wpAnyI_take (i := 0) (v := ?tv7_4) rfl rfl (by kernel_rfl) (by kernel_rfl) (by kernel_rfl) (fun _ _ _ h => h) (fun u hu => ?ty7_4) ?tk7_4
  case ty7_4 => (go_simp; try rfl)
  refine wpAnyI_take (i := 1) (v := ?tv8_4) rfl rfl (by kernel_rfl) (by kernel_rfl) (by kernel_rfl) (fun _ _ _ h => h) (fun u hu => ?ty8_4) ?tk8_4
  case ty8_4 => (go_simp; try rfl)
  refine wpAnyI_take (i := 2) (v := ?tv9_4) rfl rfl (by kernel_rfl) (by kernel_rfl) (by kernel_rfl) (fun _ _ _ h => h) (fun u hu => ?ty9_4) ?tk9_4
  case ty9_4 => (go_simp; try rfl)
  refine wpAnyI_take (i := 3) (v := ?tv10_4) rfl rfl (by kernel_rfl) (by kernel_rfl) (by kernel_rfl) (fun _ _ _ h => h) (fun u hu => ?ty10_4) ?tk10_4
  case ty10_4 => (go_simp; try rfl)
  refine wpAnyI_take (i := 4) (v := ?tv11_4) rfl rfl (by kernel_rfl) (by kernel_rfl) (by kernel_rfl) (fun _ _ _ h => h) (fun u hu => ?ty11_4) ?tk11_4
  case ty11_4 => (go_simp; try rfl)
  refine wpAnyI_take (i := 6) (v := ?tv12_4) rfl rfl (by kernel_rfl) (by kernel_rfl) (by kernel_rfl) (fun _ _ _ h => h) (fun u hu => ?ty12_4) ?tk12_4
  case ty12_4 => (go_simp; try rfl)
  refine wpAnyI_take (i := 7) (v := ?tv13_4) rfl rfl (by kernel_rfl) (by kernel_rfl) (by kernel_rfl) (fun _ _ _ h => h) (fun u hu => ?ty13_4) ?tk13_4
  case ty13_4 => (go_simp; try rfl)
  refine wpAnyI_take (i := 8) (v := ?tv14_4) rfl rfl (by kernel_rfl) (by kernel_rfl) (by kernel_rfl) (fun _ _ _ h => h) (fun u hu => ?ty14_4) ?tk14_4
  case ty14_4 => (go_simp; try rfl)
  refine wpAnyI_take (i := 9) (v := ?tv15_4) rfl rfl (by kernel_rfl) (by kernel_rfl) (by kernel_rfl) (fun _ _ _ h => h) (fun u hu => ?ty15_4) ?tk15_4
  case ty15_4 => (go_simp; try rfl)
  refine wpAnyI_take (i := 10) (v := ?tv16_4) rfl rfl (by kernel_rfl) (by kernel_rfl) (by kernel_rfl) (fun _ _ _ h => h) (fun u hu => ?ty16_4) ?tk16_4
  case ty16_4 => (go_simp; try rfl)
  refine wpAnyI_ready trivial (rs := [5]) (by kernel_rfl) (by simp) ?_
  refine AllI.cons rfl rfl (fun K hK => ?_) AllI.nil
  go_simp
  refine HN1.out.mono ?_
  rintro e w1 ⟨q1, p1, he, hqp1, hz1, hs1⟩
  rw [he]
  have HS1 := hid (HSd.out.trans hs1)
  have HZ1 := hid hz1
  have HQ1 := hid hqp1
  have HN2 := hid (newR_any a0 (cutAt ao cap (n - 8)) 8 (cap - (n - 8)) bd w1 (HRt.out _ (HSd.out.trans hs1)) (by omega) (HIa0.out _ (HSd.out.trans hs1)))
  have HGs1 : Hid (Still W w1) := hid (Still.trans ((Fr.refl _ W).drew) hs1)
  clear he hz1 hs1 hqp1 HN1
  refine hK _ _ ?_
  clear hK K
  refine wpAnyI_ready trivial (rs := [11]) (by kernel_rfl) (by simp) ?_
  refine AllI.cons rfl rfl (fun K hK => ?_) AllI.nil
  go_simp
  refine HN2.out.mono ?_
  rintro e w2 ⟨q2, p2, he, hqp2, hz2, hs2⟩
  rw [he]
  have HS2 := hid hs2
  have HZ2 := hid hz2
  have HQ2 := hid hqp2
  clear he hz2 hs2 hqp2 HN2
  refine hK _ _ ?_
  clear hK K
  refine wpAnyI_take (i := 12) (v := ?tv17_4) rfl rfl (by kernel_rfl) (by kernel_rfl) (by kernel_rfl) (fun _ _ _ h => h) (fun u hu => ?ty17_4) ?tk17_4
  case ty17_4 => (go_simp; try rfl)
  refine wpAnyI_take (i := 13) (v := ?tv18_4) rfl rfl (by kernel_rfl) (by kernel_rfl) (by kernel_rfl) (fun _ _ _ h => h) (fun u hu => ?ty18_4) ?tk18_4
  case ty18_4 => (go_simp; try rfl)
  refine wpAnyI_done trivial (by kernel_rfl) ?_ _
  have HF2 := hid (yfull_any q2 p2 a0 ⟨bd, 0, false⟩ w2.drew (HZ2.out.still ((Fr.refl _ w2).drew)))
  rw [HFu.out] at HF2
  dsimp only at HF2
  go_wp2_with fail
  refine region_I (fun _ => True) (by kernel_rfl) ?_
  refine wpAnyI_take (i := 0) (v := ?tv19_4) rfl rfl (by kernel_rfl) (by kernel_rfl) (by kernel_rfl) (fun _ _ _ h => h) (fun u hu => ?ty19_4) ?tk19_4
  case ty19_4 => (go_simp; try rfl)
  refine wpAnyI_take (i := 2) (v := ?tv20_4) rfl rfl (by kernel_rfl) (by kernel_rfl) (by kernel_rfl) (fun _ _ _ h => h) (fun u hu => ?ty20_4) ?tk20_4
  case ty20_4 => (go_simp; try rfl)
  refine wpAnyI_take (i := 3) (v := ?tv21_4) rfl rfl (by kernel_rfl) (by kernel_rfl) (by kernel_rfl) (fun _ _ _ h => h) (fun u hu => ?ty21_4) ?tk21_4
  case ty21_4 => (go_simp; try rfl)
  refine wpAnyI_take (i := 4) (v := ?tv22_4) rfl rfl (by kernel_rfl) (by kernel_rfl) (by kernel_rfl) (fun _ _ _ h => h) (fun u hu => ?ty22_4) ?tk22_4
  case ty22_4 => (go_simp; try rfl)
  refine wpAnyI_take (i := 5) (v := ?tv23_4) rfl rfl (by kernel_rfl) (by kernel_rfl) (by kernel_rfl) (fun _ _ _ h => h) (fun u hu => ?ty23_4) ?tk23_4
  case ty23_4 => (go_simp; try rfl)
  refine wpAnyI_take (i := 6) (v := ?tv24_4) rfl rfl (by kernel_rfl) (by kernel_rfl) (by kernel_rfl) (fun _ _ _ h => h) (fun u hu => ?ty24_4) ?tk24_4
  case ty24_4 => (go_simp; try rfl)
  refine wpAnyI_ready trivial (rs := [1]) (by kernel_rfl) (by simp) ?_
  refine AllI.cons rfl rfl (fun K hK => ?_) AllI.nil
  go_simp
  refine HF2.out.mono ?_
  rintro e w3 ⟨he, hz3⟩
  rw [he]
  have hRF : ∀ k, RF q2 p2 k → w1.heap.size ≤ k := fun k hk => by have := HQ2.out; rcases hk with hk | hk <;> omega
  have HS3 : Hid (Still w1 w3) := hid (Fr.trans (HS2.out.trans ((Fr.refl _ w2).drew)) hz3.f (fun k hk e => by have := hRF k e; omega))
  have HO3 := hid (dof_any ao (n - 8) cap bt w3 (HRa.out _ (HS1.out.trans HS3.out)) (HTb.out _ (HS1.out.trans HS3.out)))
  rw [HOf.out] at HO3
  clear he hz3 HF2 hRF
  refine hK _ _ ?_
  clear hK K
  refine wpAnyI_ready trivial (rs := [7]) (by kernel_rfl) (by simp) ?_
  refine AllI.cons rfl rfl (fun K hK => ?_) AllI.nil
  go_simp
  refine HO3.out.mono ?_
  rintro e w4 ⟨he, hs4⟩
  rw [he]
  have HS4 := hid (HS3.out.trans hs4)
  clear he hs4 HO3 HS3
  refine hK _ _ ?_
  clear hK K
  have heq : m' = m := HSm.out.1 (by rw [← HDe.out.2.1, ← HDe.out.2.2]; exact hs)
  subst heq
  refine wpAnyI_take (i := 8) (v := ?tv29_4) rfl rfl (by kernel_rfl) (by kernel_rfl) (by kernel_rfl) (fun _ _ _ h => h) (fun u hu => ?ty29_4) ?tk29_4
  case ty29_4 => (go_simp; try rfl)
  refine wpAnyI_done trivial (by kernel_rfl) ?_ _
  have HS5 := hid (HS1.out.trans HS4.out)
  have HD5 := hid (HD0.out.still (HGs1.out.trans HS4.out))
  have HZ4 := hid (HZ1.out.still HS4.out)
  have HDg := hid (ydg_any q1 p1 a0 ⟨bt, 0, false⟩ w4 HZ4.out)
  have hY := says_no par_dg (B := bt) (by rw [← HDe.out.2.1]; exact hd)
  obtain ⟨DD, SS, eDS⟩ : ∃ a b, dgM ⟨bt, 0, false⟩ = (a, b) := ⟨_, _, rfl⟩
  rw [eDS] at HDg hY
  dsimp only at HDg hY
  have HYy := hid hY
  clear hY eDS
  go_wp2_with fail
  refine HDg.out.mono ?_
  rintro e w5 ⟨co, cn, cp, he, ho5, ht5⟩
  rw [he]
  have hRF : ∀ k, RF q1 p1 k → W.heap.size ≤ k := fun k hk => by
    have h3 := HQ1.out
    have h4 : W.drew.heap.size = W.heap.size := rfl
    rcases hk with hk | hk <;> omega
  have HS6 : Hid (Still W w5) := hid (Fr.trans (HGs1.out.trans HS4.out) ht5.f (fun k hk e => by have := hRF k e; omega))
  have A5 := Still.alloc w5 (.cells (dgc DD co cn cp) 25)
  have HEn := hid (yend_any q1 p1 a0 SS (w5.alloc (.cells (dgc DD co cn cp) 25)) (ht5.r.still A5))
  have HO5 := hid (ho5.still A5)
  have HS7 := hid (HS6.out.trans A5)
  have HDv := hid (newDg_b w5 DD co cn cp)
  have HW4 : Hid (w.heap.size ≤ w4.heap.size ∧ W.heap.size ≤ w4.heap.size) := hid ⟨HS5.out.size, (HGs1.out.trans HS4.out).size⟩
  clear he ho5 ht5 A5 hRF HDg
  rw [HYy.out] at HEn
  go_wp2_with fail
  refine HEn.out.mono ?_
  rintro e w8 ⟨he, ht8⟩
  rw [he]
  have hRF : ∀ k, RF q1 p1 k → W.heap.size ≤ k := fun k hk => by
    have h3 := HQ1.out
    have h4 : W.drew.heap.size = W.heap.size := rfl
    rcases hk with hk | hk <;> omega
  have HS8 : Hid (Still W w8) := hid (Fr.trans HS7.out ht8.f (fun k hk e => by have := hRF k e; omega))
  have HSw : Hid (Still w w8) := hid (HA.out.trans HS8.out)
  have HD8 := hid (HD0.out.still HS8.out)
  clear he ht8 hRF HEn
  have hyv : yv a0 true = efv a0 := rfl
  rw [hyv]
  clear hyv
  obtain ⟨f0, f1, f2, f3, f4, f5, f6, f7, ff⟩ := HD8.out.cells
  have j0 := ff 0
  have j1 := ff 1
  have j2 := ff 2
  have j3 := ff 3
  have j4 := ff 4
  have j5 := ff 5
  have j6 := ff 6
  have j7 := ff 7
  have hnn := run_eql_iface_nil_right16 w8 a0
  go_wp2_with fail
  have HFs : Still w (setDg w8 g2 zD none 0 0) := Fr.trans HSw.out (setDg_fr (Fr.refl (fun k => k = g2) _) g2 zD none 0 0 (.inl rfl)) (fun k hk e => by have := HG2.out; omega)
  exact bodyPost_ret ((HD8.out.set zD none 0 0).rest rfl _ _ rfl rfl) rfl ⟨none, 0, 0, rfl, OwG.nil _ _, HFs⟩
set_option maxHeartbeats 4000000 in
theorem parse_bad (B : Nat) (a0 a1 a2 : Addr) (ao : Option Addr) (n cap : Nat) (b : List UInt8) (hb : ¬ (16384 < b.length ∨ b.length < 8)) (hs : sumZ (b.take (b.length - 8)) = b.drop (b.length - 8)) (d : Dg) (hd : saysD (b.take (b.length - 8)) = some d) (hok : okD d = false) (w : World) (ht : FTab w) (hr : Rd w ao n cap b) (hE : ETab w B a0 a1 a2) :
    Calls Tryz.prog 26 #[.slice ao n cap] w fun e w' => PrsR w w' a0 a1 a2 (zD, 162) e := by
  have A0 := Still.alloc w (.cells #[.int .i64 0, .int .u64 0, .int .i64 0, .int .i64 0, .int .i64 0, .int .i64 0, .slice none 0 0, .int .i64 0] 25)
  have HIa0 : Hid (∀ u, Still w u → u.cell? ⟨0, 0, none⟩ = some (efv a0)) := hid (fun u hu => (hE.still hu).g0)
  have HIa1 : Hid (∀ u, Still w u → u.cell? ⟨1, 0, none⟩ = some (efv a1)) := hid (fun u hu => (hE.still hu).g1)
  have HIa2 : Hid (∀ u, Still w u → u.cell? ⟨2, 0, none⟩ = some (efv a2)) := hid (fun u hu => (hE.still hu).g2)
  have HD0 : Hid (Dgb (w.alloc (.cells #[.int .i64 0, .int .u64 0, .int .i64 0, .int .i64 0, .int .i64 0, .int .i64 0, .slice none 0 0, .int .i64 0] 25)) w.heap.size zD none 0 0) := hid (newDg_b w zD none 0 0)
  have HA := hid A0
  have hln := hr.len
  have hsm := hr.small
  have h1 : ¬ (16384 : Int) < (n : Int) := by omega
  have h2 : ¬ (n : Int) < 8 := by omega
  obtain ⟨i0, hi0, hz0, hs10, hb10⟩ := info_parts info_u8
  have hcap := hr.le
  have hwn : IntKind.i64.wrap ((n : Int) - 8) = (n : Int) - 8 := wr64 (by omega) (by omega)
  have hsu : ∀ W' : World, (Instr.slice 31 (.slice ao n cap) none (some (.int .i64 ((n : Int) - 8))) none).run Tryz.prog W' = .ok (.slice ao (n - 8) cap) W' := fun W' => by
    have := run_upto (P := Tryz.prog) W' 31 5 i0 Tryz.underlying31 hi0 hs10 .i64 ao n cap ((n : Int) - 8) (by omega) (by omega)
    rw [this, show ((n : Int) - 8).toNat = n - 8 by omega]
  have hsf : ∀ W' : World, (Instr.slice 31 (.slice ao n cap) (some (.int .i64 ((n : Int) - 8))) none none).run Tryz.prog W' = .ok (.slice (cutAt ao cap (n - 8)) 8 (cap - (n - 8))) W' := fun W' => by
    have := run_from (P := Tryz.prog) W' 31 5 i0 Tryz.underlying31 hi0 hs10 .i64 ao n cap ((n : Int) - 8) (by omega) (by omega)
    rw [this, show ((n : Int) - 8).toNat = n - 8 by omega, show n - (n - 8) = 8 by omega]
  have HRa : Hid (∀ u, Still w u → Rd u ao (n - 8) cap (b.take (n - 8))) := hid (fun u hu => (hr.take (by omega)).still hu)
  have HRt : Hid (∀ u, Still w u → Rd u (cutAt ao cap (n - 8)) 8 (cap - (n - 8)) (b.drop (n - 8))) := hid (fun u hu => by
    have := (hr.drop (i := n - 8) (by omega)).still hu
    rwa [show n - (n - 8) = 8 by omega] at this)
  have HTb : Hid (∀ u, Still w u → FTab u) := hid (fun u hu => ht.still hu)
  obtain ⟨m, hm, em⟩ := ofI_inZ (b.take (n - 8))
  obtain ⟨m', hm', em'⟩ := sumF_all (b.drop (n - 8))
  have hl8 : (b.drop (n - 8)).length = 8 := by rw [List.length_drop]; omega
  rw [hl8] at hm' em'
  have HFu : Hid (fuM 8 0 0 ⟨b.drop (n - 8), 0, false⟩ = (m', ⟨[], 0, false⟩)) := hid (by rw [em']; exact full_of hm')
  have HSm : Hid (sumZ (b.take (n - 8)) = b.drop (n - 8) ↔ m' = m) := hid (by
    unfold sumZ
    rw [em, em', Int.toNat_natCast]
    constructor
    · intro h; exact (sumF_inj (by omega) hm' h).symm
    · rintro rfl; rfl)
  have HOf : Hid (ofI (b.take (n - 8)) = (m : Int)) := hid em
  obtain ⟨bt, ebt⟩ : ∃ x, b.take (n - 8) = x := ⟨_, rfl⟩
  obtain ⟨bd, ebd⟩ : ∃ x, b.drop (n - 8) = x := ⟨_, rfl⟩
  have HDe : Hid (¬ (16384 < b.length ∨ b.length < 8) ∧ b.take (b.length - 8) = bt ∧ b.drop (b.length - 8) = bd) := hid ⟨hb, by rw [hln]; exact ebt, by rw [hln]; exact ebd⟩
  rw [ebt] at HRa HSm HOf
  rw [ebd] at HRt HFu HSm
  obtain ⟨W, eW⟩ : ∃ W, w.alloc (.cells #[.int .i64 0, .int .u64 0, .int .i64 0, .int .i64 0, .int .i64 0, .int .i64 0, .slice none 0 0, .int .i64 0] 25) = W := ⟨_, rfl⟩
  obtain ⟨g2, eg2⟩ : ∃ g, w.heap.size = g := ⟨_, rfl⟩
  rw [eW] at HD0 HA
  rw [eg2] at HD0
  have HG2 := hid eg2
  have HWs : Hid (g2 < W.heap.size) := hid (block_lt HD0.out)
  clear hr ht hE A0 hb hln em em' hl8 ebt ebd
  go_enter Tryz.func26, Tryz.ntmps26
  go_wp2_with fail
  have HSd : Hid (Still w W.drew) := hid (HA.out.trans ((Fr.refl _ W).drew))
  have HN1 := hid (newR_any a0 ao (n - 8) cap bt W.drew (HRa.out _ HSd.out) (by omega) (HIa0.out _ HSd.out))
  clear eW eg2
  refine region_I (fun _ => True) (by kernel_rfl) ?_
  refine wpAnyI_take (i := 0) (v := ?tv7_5) rfl rfl (by kernel_rfl) (by kernel_rfl) (by kernel_rfl) (fun _ _ _ h => h) (fun u hu => ?ty7_5) ?tk7_5
  case ty7_5 => (go_simp; try rfl)
  refine wpAnyI_take (i := 1) (v := ?tv8_5) rfl rfl (by kernel_rfl) (by kernel_rfl) (by kernel_rfl) (fun _ _ _ h => h) (fun u hu => ?ty8_5) ?tk8_5
  case ty8_5 => (go_simp; try rfl)
  refine wpAnyI_take (i := 2) (v := ?tv9_5) rfl rfl (by kernel_rfl) (by kernel_rfl) (by kernel_rfl) (fun _ _ _ h => h) (fun u hu => ?ty9_5) ?tk9_5
  case ty9_5 => (go_simp; try rfl)
  refine wpAnyI_take (i := 3) (v := ?tv10_5) rfl rfl (by kernel_rfl) (by kernel_rfl) (by kernel_rfl) (fun _ _ _ h => h) (fun u hu => ?ty10_5) ?tk10_5
  case ty10_5 => (go_simp; try rfl)
  refine wpAnyI_take (i := 4) (v := ?tv11_5) rfl rfl (by kernel_rfl) (by kernel_rfl) (by kernel_rfl) (fun _ _ _ h => h) (fun u hu => ?ty11_5) ?tk11_5
  case ty11_5 => (go_simp; try rfl)
  refine wpAnyI_take (i := 6) (v := ?tv12_5) rfl rfl (by kernel_rfl) (by kernel_rfl) (by kernel_rfl) (fun _ _ _ h => h) (fun u hu => ?ty12_5) ?tk12_5
  case ty12_5 => (go_simp; try rfl)
  refine wpAnyI_take (i := 7) (v := ?tv13_5) rfl rfl (by kernel_rfl) (by kernel_rfl) (by kernel_rfl) (fun _ _ _ h => h) (fun u hu => ?ty13_5) ?tk13_5
  case ty13_5 => (go_simp; try rfl)
  refine wpAnyI_take (i := 8) (v := ?tv14_5) rfl rfl (by kernel_rfl) (by kernel_rfl) (by kernel_rfl) (fun _ _ _ h => h) (fun u hu => ?ty14_5) ?tk14_5
  case ty14_5 => (go_simp; try rfl)
  refine wpAnyI_take (i := 9) (v := ?tv15_5) rfl rfl (by kernel_rfl) (by kernel_rfl) (by kernel_rfl) (fun _ _ _ h => h) (fun u hu => ?ty15_5) ?tk15_5
  case ty15_5 => (go_simp; try rfl)
  refine wpAnyI_take (i := 10) (v := ?tv16_5) rfl rfl (by kernel_rfl) (by kernel_rfl) (by kernel_rfl) (fun _ _ _ h => h) (fun u hu => ?ty16_5) ?tk16_5
  case ty16_5 => (go_simp; try rfl)
  refine wpAnyI_ready trivial (rs := [5]) (by kernel_rfl) (by simp) ?_
  refine AllI.cons rfl rfl (fun K hK => ?_) AllI.nil
  go_simp
  refine HN1.out.mono ?_
  rintro e w1 ⟨q1, p1, he, hqp1, hz1, hs1⟩
  rw [he]
  have HS1 := hid (HSd.out.trans hs1)
  have HZ1 := hid hz1
  have HQ1 := hid hqp1
  have HN2 := hid (newR_any a0 (cutAt ao cap (n - 8)) 8 (cap - (n - 8)) bd w1 (HRt.out _ (HSd.out.trans hs1)) (by omega) (HIa0.out _ (HSd.out.trans hs1)))
  have HGs1 : Hid (Still W w1) := hid (Still.trans ((Fr.refl _ W).drew) hs1)
  clear he hz1 hs1 hqp1 HN1
  refine hK _ _ ?_
  clear hK K
  refine wpAnyI_ready trivial (rs := [11]) (by kernel_rfl) (by simp) ?_
  refine AllI.cons rfl rfl (fun K hK => ?_) AllI.nil
  go_simp
  refine HN2.out.mono ?_
  rintro e w2 ⟨q2, p2, he, hqp2, hz2, hs2⟩
  rw [he]
  have HS2 := hid hs2
  have HZ2 := hid hz2
  have HQ2 := hid hqp2
  clear he hz2 hs2 hqp2 HN2
  refine hK _ _ ?_
  clear hK K
  refine wpAnyI_take (i := 12) (v := ?tv17_5) rfl rfl (by kernel_rfl) (by kernel_rfl) (by kernel_rfl) (fun _ _ _ h => h) (fun u hu => ?ty17_5) ?tk17_5
  case ty17_5 => (go_simp; try rfl)
  refine wpAnyI_take (i := 13) (v := ?tv18_5) rfl rfl (by kernel_rfl) (by kernel_rfl) (by kernel_rfl) (fun _ _ _ h => h) (fun u hu => ?ty18_5) ?tk18_5
  case ty18_5 => (go_simp; try rfl)
  refine wpAnyI_done trivial (by kernel_rfl) ?_ _
  have HF2 := hid (yfull_any q2 p2 a0 ⟨bd, 0, false⟩ w2.drew (HZ2.out.still ((Fr.refl _ w2).drew)))
  rw [HFu.out] at HF2
  dsimp only at HF2
  go_wp2_with fail
  refine region_I (fun _ => True) (by kernel_rfl) ?_
  refine wpAnyI_take (i := 0) (v := ?tv19_5) rfl rfl (by kernel_rfl) (by kernel_rfl) (by kernel_rfl) (fun _ _ _ h => h) (fun u hu => ?ty19_5) ?tk19_5
  case ty19_5 => (go_simp; try rfl)
  refine wpAnyI_take (i := 2) (v := ?tv20_5) rfl rfl (by kernel_rfl) (by kernel_rfl) (by kernel_rfl) (fun _ _ _ h => h) (fun u hu => ?ty20_5) ?tk20_5
  case ty20_5 => (go_simp; try rfl)
  refine wpAnyI_take (i := 3) (v := ?tv21_5) rfl rfl (by kernel_rfl) (by kernel_rfl) (by kernel_rfl) (fun _ _ _ h => h) (fun u hu => ?ty21_5) ?tk21_5
  case ty21_5 => (go_simp; try rfl)
  refine wpAnyI_take (i := 4) (v := ?tv22_5) rfl rfl (by kernel_rfl) (by kernel_rfl) (by kernel_rfl) (fun _ _ _ h => h) (fun u hu => ?ty22_5) ?tk22_5
  case ty22_5 => (go_simp; try rfl)
  refine wpAnyI_take (i := 5) (v := ?tv23_5) rfl rfl (by kernel_rfl) (by kernel_rfl) (by kernel_rfl) (fun _ _ _ h => h) (fun u hu => ?ty23_5) ?tk23_5
  case ty23_5 => (go_simp; try rfl)
  refine wpAnyI_take (i := 6) (v := ?tv24_5) rfl rfl (by kernel_rfl) (by kernel_rfl) (by kernel_rfl) (fun _ _ _ h => h) (fun u hu => ?ty24_5) ?tk24_5
  case ty24_5 => (go_simp; try rfl)
  refine wpAnyI_ready trivial (rs := [1]) (by kernel_rfl) (by simp) ?_
  refine AllI.cons rfl rfl (fun K hK => ?_) AllI.nil
  go_simp
  refine HF2.out.mono ?_
  rintro e w3 ⟨he, hz3⟩
  rw [he]
  have hRF : ∀ k, RF q2 p2 k → w1.heap.size ≤ k := fun k hk => by have := HQ2.out; rcases hk with hk | hk <;> omega
  have HS3 : Hid (Still w1 w3) := hid (Fr.trans (HS2.out.trans ((Fr.refl _ w2).drew)) hz3.f (fun k hk e => by have := hRF k e; omega))
  have HO3 := hid (dof_any ao (n - 8) cap bt w3 (HRa.out _ (HS1.out.trans HS3.out)) (HTb.out _ (HS1.out.trans HS3.out)))
  rw [HOf.out] at HO3
  clear he hz3 HF2 hRF
  refine hK _ _ ?_
  clear hK K
  refine wpAnyI_ready trivial (rs := [7]) (by kernel_rfl) (by simp) ?_
  refine AllI.cons rfl rfl (fun K hK => ?_) AllI.nil
  go_simp
  refine HO3.out.mono ?_
  rintro e w4 ⟨he, hs4⟩
  rw [he]
  have HS4 := hid (HS3.out.trans hs4)
  clear he hs4 HO3 HS3
  refine hK _ _ ?_
  clear hK K
  have heq : m' = m := HSm.out.1 (by rw [← HDe.out.2.1, ← HDe.out.2.2]; exact hs)
  subst heq
  refine wpAnyI_take (i := 8) (v := ?tv33_5) rfl rfl (by kernel_rfl) (by kernel_rfl) (by kernel_rfl) (fun _ _ _ h => h) (fun u hu => ?ty33_5) ?tk33_5
  case ty33_5 => (go_simp; try rfl)
  refine wpAnyI_done trivial (by kernel_rfl) ?_ _
  have HS5 := hid (HS1.out.trans HS4.out)
  have HD5 := hid (HD0.out.still (HGs1.out.trans HS4.out))
  have HZ4 := hid (HZ1.out.still HS4.out)
  have HQ4 : Hid (q1 < w4.heap.size ∧ p1 < w4.heap.size) := hid HZ4.out.lt
  have HLe : Hid ((dgM ⟨bt, 0, false⟩).1.cs.length ≤ 336) := hid (dgM_cs _)
  have HDg := hid (ydg_any q1 p1 a0 ⟨bt, 0, false⟩ w4 HZ4.out)
  obtain ⟨hY1, hY2⟩ := says_yes par_dg (B := bt) (d := d) (by rw [← HDe.out.2.1]; exact hd)
  obtain ⟨DD, SS, eDS⟩ : ∃ a b, dgM ⟨bt, 0, false⟩ = (a, b) := ⟨_, _, rfl⟩
  rw [eDS] at HDg hY1 hY2 HLe
  dsimp only at HDg hY1 hY2 HLe
  subst hY1
  have HYy := hid hY2
  clear hY2 eDS
  go_wp2_with fail
  refine HDg.out.mono ?_
  rintro e w5 ⟨co, cn, cp, he, ho5, ht5⟩
  rw [he]
  have hRF : ∀ k, RF q1 p1 k → W.heap.size ≤ k := fun k hk => by
    have h3 := HQ1.out
    have h4 : W.drew.heap.size = W.heap.size := rfl
    rcases hk with hk | hk <;> omega
  have HS6 : Hid (Still W w5) := hid (Fr.trans (HGs1.out.trans HS4.out) ht5.f (fun k hk e => by have := hRF k e; omega))
  have A5 := Still.alloc w5 (.cells (dgc DD co cn cp) 25)
  have HEn := hid (yend_any q1 p1 a0 SS (w5.alloc (.cells (dgc DD co cn cp) 25)) (ht5.r.still A5))
  have HO5 := hid (ho5.still A5)
  have HS7 := hid (HS6.out.trans A5)
  have HDv := hid (newDg_b w5 DD co cn cp)
  have HW4 : Hid (w.heap.size ≤ w4.heap.size ∧ W.heap.size ≤ w4.heap.size) := hid ⟨HS5.out.size, (HGs1.out.trans HS4.out).size⟩
  have HQq : Hid (q1 < w5.heap.size ∧ p1 < w5.heap.size) := hid ht5.r.lt
  clear he ho5 ht5 A5 hRF HDg
  rw [HYy.out] at HEn
  go_wp2_with fail
  refine HEn.out.mono ?_
  rintro e w8 ⟨he, ht8⟩
  rw [he]
  have hRF : ∀ k, RF q1 p1 k → W.heap.size ≤ k := fun k hk => by
    have h3 := HQ1.out
    have h4 : W.drew.heap.size = W.heap.size := rfl
    rcases hk with hk | hk <;> omega
  have HS8 : Hid (Still W w8) := hid (Fr.trans HS7.out ht8.f (fun k hk e => by have := hRF k e; omega))
  have HSw : Hid (Still w w8) := hid (HA.out.trans HS8.out)
  have HD8 := hid (HD0.out.still HS8.out)
  have hnq : ¬ RF q1 p1 w5.heap.size := fun e => by
    have h5 := HQq.out
    rcases e with e | e <;> omega
  have HV8 := hid (HDv.out.to hnq ht8)
  have HO8 : Hid (OwG KCc 42 w8 w4.heap.size (.slice co cn cp) DD.cs) := hid (HO5.out.keep ht8.f (fun k hk e => by
    have h5 := (HO5.out.block e).1
    have h6 := HQ4.out
    rcases hk with hk | hk <;> omega))
  clear he ht8 hRF HEn hnq
  have hyv : yv a0 false = .nilIface := rfl
  rw [hyv]
  clear hyv
  obtain ⟨v0, v1, v2, v3, v4, v5, v6, v7, _⟩ := HV8.out.cells
  have hlen8 : cn = DD.cs.length := HO8.out.len16
  have HCk := hid (wchk16_any DD co cn cp w8 (by rw [hlen8] at HO8 ⊢; exact HO8.out.rdz (by
    have := HLe.out
    omega)))
  rw [show chkD DD = 162 by unfold chkD; rw [hok]; rfl] at HCk
  clear hlen8
  go_wp2_with fail
  refine HCk.out.mono ?_
  rintro e w9 ⟨he, hs9⟩
  rw [he]
  have HS9 := hid (HSw.out.trans hs9)
  have HD9 := hid (HD8.out.still hs9)
  have HV9 := hid (HV8.out.still hs9)
  have HO9 := hid (HO8.out.still hs9)
  clear he hs9 HCk v0 v1 v2 v3 v4 v5 v6 v7
  go_wp2_with fail
  refine region_I (fun u => u.cell? ⟨2, 0, none⟩ = some (efv a2)) (by kernel_rfl) ?_
  refine wpAnyI_take (i := 0) (v := ?tv30_5) rfl rfl (by kernel_rfl) (by kernel_rfl) (by kernel_rfl) (fun _ _ _ h => h) (fun u hu => ?ty30_5) ?tk30_5
  case ty30_5 => (go_simp; try rfl)
  refine wpAnyI_take (i := 1) (v := ?tv31_5) rfl rfl (by kernel_rfl) (by kernel_rfl) (by kernel_rfl) (fun _ _ _ h => h) (fun u hu => ?ty31_5) ?tk31_5
  case ty31_5 => (go_simp; try rfl)
  refine wpAnyI_ready (HIa2.out _ (HS9.out.trans ((Fr.refl _ _).drew))) (rs := [2]) (by kernel_rfl) (by simp) ?_
  refine AllI.cons rfl rfl (fun K hK => ?_) AllI.nil
  obtain ⟨f0, f1, f2, f3, f4, f5, f6, f7, ff⟩ := HD9.out.cells
  have j0 := ff 0
  have j1 := ff 1
  have j2 := ff 2
  have j3 := ff 3
  have j4 := ff 4
  have j5 := ff 5
  have j6 := ff 6
  have j7 := ff 7
  go_simp
  refine hK _ _ ?_
  clear hK K
  refine wpAnyI_take (i := 3) (v := ?tv32_5) rfl rfl (by kernel_rfl) (by kernel_rfl) (by kernel_rfl) (fun _ _ _ h => h) (fun u hu => ?ty32_5) ?tk32_5
  case ty32_5 => (go_simp; try rfl)
  have HFs : Hid (Still w (setDg w9 g2 zD none 0 0).drew) := hid (Fr.drew (Fr.trans HS9.out (setDg_fr (Fr.refl (fun k => k = g2) _) g2 zD none 0 0 (.inl rfl)) (fun k hk e => by have := HG2.out; omega)))
  refine wpAnyI_done (HIa2.out _ HFs.out) (by kernel_rfl) ?_ _
  go_wp2_with fail
  exact bodyPost_ret ((((HD9.out).set zD none 0 0).still ((Fr.refl _ _).drew)).rest rfl _ _ rfl rfl) rfl ⟨none, 0, 0, rfl, OwG.nil _ _, HFs.out⟩

set_option maxHeartbeats 4000000 in
theorem parse_ok (B : Nat) (a0 a1 a2 : Addr) (ao : Option Addr) (n cap : Nat) (b : List UInt8) (hb : ¬ (16384 < b.length ∨ b.length < 8)) (hs : sumZ (b.take (b.length - 8)) = b.drop (b.length - 8)) (d : Dg) (hd : saysD (b.take (b.length - 8)) = some d) (hok : okD d = true) (w : World) (ht : FTab w) (hr : Rd w ao n cap b) (hE : ETab w B a0 a1 a2) :
    Calls Tryz.prog 26 #[.slice ao n cap] w fun e w' => PrsR w w' a0 a1 a2 (d, 0) e := by
  have A0 := Still.alloc w (.cells #[.int .i64 0, .int .u64 0, .int .i64 0, .int .i64 0, .int .i64 0, .int .i64 0, .slice none 0 0, .int .i64 0] 25)
  have HIa0 : Hid (∀ u, Still w u → u.cell? ⟨0, 0, none⟩ = some (efv a0)) := hid (fun u hu => (hE.still hu).g0)
  have HIa1 : Hid (∀ u, Still w u → u.cell? ⟨1, 0, none⟩ = some (efv a1)) := hid (fun u hu => (hE.still hu).g1)
  have HIa2 : Hid (∀ u, Still w u → u.cell? ⟨2, 0, none⟩ = some (efv a2)) := hid (fun u hu => (hE.still hu).g2)
  have HD0 : Hid (Dgb (w.alloc (.cells #[.int .i64 0, .int .u64 0, .int .i64 0, .int .i64 0, .int .i64 0, .int .i64 0, .slice none 0 0, .int .i64 0] 25)) w.heap.size zD none 0 0) := hid (newDg_b w zD none 0 0)
  have HA := hid A0
  have hln := hr.len
  have hsm := hr.small
  have h1 : ¬ (16384 : Int) < (n : Int) := by omega
  have h2 : ¬ (n : Int) < 8 := by omega
  obtain ⟨i0, hi0, hz0, hs10, hb10⟩ := info_parts info_u8
  have hcap := hr.le
  have hwn : IntKind.i64.wrap ((n : Int) - 8) = (n : Int) - 8 := wr64 (by omega) (by omega)
  have hsu : ∀ W' : World, (Instr.slice 31 (.slice ao n cap) none (some (.int .i64 ((n : Int) - 8))) none).run Tryz.prog W' = .ok (.slice ao (n - 8) cap) W' := fun W' => by
    have := run_upto (P := Tryz.prog) W' 31 5 i0 Tryz.underlying31 hi0 hs10 .i64 ao n cap ((n : Int) - 8) (by omega) (by omega)
    rw [this, show ((n : Int) - 8).toNat = n - 8 by omega]
  have hsf : ∀ W' : World, (Instr.slice 31 (.slice ao n cap) (some (.int .i64 ((n : Int) - 8))) none none).run Tryz.prog W' = .ok (.slice (cutAt ao cap (n - 8)) 8 (cap - (n - 8))) W' := fun W' => by
    have := run_from (P := Tryz.prog) W' 31 5 i0 Tryz.underlying31 hi0 hs10 .i64 ao n cap ((n : Int) - 8) (by omega) (by omega)
    rw [this, show ((n : Int) - 8).toNat = n - 8 by omega, show n - (n - 8) = 8 by omega]
  have HRa : Hid (∀ u, Still w u → Rd u ao (n - 8) cap (b.take (n - 8))) := hid (fun u hu => (hr.take (by omega)).still hu)
  have HRt : Hid (∀ u, Still w u → Rd u (cutAt ao cap (n - 8)) 8 (cap - (n - 8)) (b.drop (n - 8))) := hid (fun u hu => by
    have := (hr.drop (i := n - 8) (by omega)).still hu
    rwa [show n - (n - 8) = 8 by omega] at this)
  have HTb : Hid (∀ u, Still w u → FTab u) := hid (fun u hu => ht.still hu)
  obtain ⟨m, hm, em⟩ := ofI_inZ (b.take (n - 8))
  obtain ⟨m', hm', em'⟩ := sumF_all (b.drop (n - 8))
  have hl8 : (b.drop (n - 8)).length = 8 := by rw [List.length_drop]; omega
  rw [hl8] at hm' em'
  have HFu : Hid (fuM 8 0 0 ⟨b.drop (n - 8), 0, false⟩ = (m', ⟨[], 0, false⟩)) := hid (by rw [em']; exact full_of hm')
  have HSm : Hid (sumZ (b.take (n - 8)) = b.drop (n - 8) ↔ m' = m) := hid (by
    unfold sumZ
    rw [em, em', Int.toNat_natCast]
    constructor
    · intro h; exact (sumF_inj (by omega) hm' h).symm
    · rintro rfl; rfl)
  have HOf : Hid (ofI (b.take (n - 8)) = (m : Int)) := hid em
  obtain ⟨bt, ebt⟩ : ∃ x, b.take (n - 8) = x := ⟨_, rfl⟩
  obtain ⟨bd, ebd⟩ : ∃ x, b.drop (n - 8) = x := ⟨_, rfl⟩
  have HDe : Hid (¬ (16384 < b.length ∨ b.length < 8) ∧ b.take (b.length - 8) = bt ∧ b.drop (b.length - 8) = bd) := hid ⟨hb, by rw [hln]; exact ebt, by rw [hln]; exact ebd⟩
  rw [ebt] at HRa HSm HOf
  rw [ebd] at HRt HFu HSm
  obtain ⟨W, eW⟩ : ∃ W, w.alloc (.cells #[.int .i64 0, .int .u64 0, .int .i64 0, .int .i64 0, .int .i64 0, .int .i64 0, .slice none 0 0, .int .i64 0] 25) = W := ⟨_, rfl⟩
  obtain ⟨g2, eg2⟩ : ∃ g, w.heap.size = g := ⟨_, rfl⟩
  rw [eW] at HD0 HA
  rw [eg2] at HD0
  have HG2 := hid eg2
  have HWs : Hid (g2 < W.heap.size) := hid (block_lt HD0.out)
  clear hr ht hE A0 hb hln em em' hl8 ebt ebd
  go_enter Tryz.func26, Tryz.ntmps26
  go_wp2_with fail
  have HSd : Hid (Still w W.drew) := hid (HA.out.trans ((Fr.refl _ W).drew))
  have HN1 := hid (newR_any a0 ao (n - 8) cap bt W.drew (HRa.out _ HSd.out) (by omega) (HIa0.out _ HSd.out))
  clear eW eg2
  refine region_I (fun _ => True) (by kernel_rfl) ?_
  refine wpAnyI_take (i := 0) (v := ?tv7_6) rfl rfl (by kernel_rfl) (by kernel_rfl) (by kernel_rfl) (fun _ _ _ h => h) (fun u hu => ?ty7_6) ?tk7_6
  case ty7_6 => (go_simp; try rfl)
  refine wpAnyI_take (i := 1) (v := ?tv8_6) rfl rfl (by kernel_rfl) (by kernel_rfl) (by kernel_rfl) (fun _ _ _ h => h) (fun u hu => ?ty8_6) ?tk8_6
  case ty8_6 => (go_simp; try rfl)
  refine wpAnyI_take (i := 2) (v := ?tv9_6) rfl rfl (by kernel_rfl) (by kernel_rfl) (by kernel_rfl) (fun _ _ _ h => h) (fun u hu => ?ty9_6) ?tk9_6
  case ty9_6 => (go_simp; try rfl)
  refine wpAnyI_take (i := 3) (v := ?tv10_6) rfl rfl (by kernel_rfl) (by kernel_rfl) (by kernel_rfl) (fun _ _ _ h => h) (fun u hu => ?ty10_6) ?tk10_6
  case ty10_6 => (go_simp; try rfl)
  refine wpAnyI_take (i := 4) (v := ?tv11_6) rfl rfl (by kernel_rfl) (by kernel_rfl) (by kernel_rfl) (fun _ _ _ h => h) (fun u hu => ?ty11_6) ?tk11_6
  case ty11_6 => (go_simp; try rfl)
  refine wpAnyI_take (i := 6) (v := ?tv12_6) rfl rfl (by kernel_rfl) (by kernel_rfl) (by kernel_rfl) (fun _ _ _ h => h) (fun u hu => ?ty12_6) ?tk12_6
  case ty12_6 => (go_simp; try rfl)
  refine wpAnyI_take (i := 7) (v := ?tv13_6) rfl rfl (by kernel_rfl) (by kernel_rfl) (by kernel_rfl) (fun _ _ _ h => h) (fun u hu => ?ty13_6) ?tk13_6
  case ty13_6 => (go_simp; try rfl)
  refine wpAnyI_take (i := 8) (v := ?tv14_6) rfl rfl (by kernel_rfl) (by kernel_rfl) (by kernel_rfl) (fun _ _ _ h => h) (fun u hu => ?ty14_6) ?tk14_6
  case ty14_6 => (go_simp; try rfl)
  refine wpAnyI_take (i := 9) (v := ?tv15_6) rfl rfl (by kernel_rfl) (by kernel_rfl) (by kernel_rfl) (fun _ _ _ h => h) (fun u hu => ?ty15_6) ?tk15_6
  case ty15_6 => (go_simp; try rfl)
  refine wpAnyI_take (i := 10) (v := ?tv16_6) rfl rfl (by kernel_rfl) (by kernel_rfl) (by kernel_rfl) (fun _ _ _ h => h) (fun u hu => ?ty16_6) ?tk16_6
  case ty16_6 => (go_simp; try rfl)
  refine wpAnyI_ready trivial (rs := [5]) (by kernel_rfl) (by simp) ?_
  refine AllI.cons rfl rfl (fun K hK => ?_) AllI.nil
  go_simp
  refine HN1.out.mono ?_
  rintro e w1 ⟨q1, p1, he, hqp1, hz1, hs1⟩
  rw [he]
  have HS1 := hid (HSd.out.trans hs1)
  have HZ1 := hid hz1
  have HQ1 := hid hqp1
  have HN2 := hid (newR_any a0 (cutAt ao cap (n - 8)) 8 (cap - (n - 8)) bd w1 (HRt.out _ (HSd.out.trans hs1)) (by omega) (HIa0.out _ (HSd.out.trans hs1)))
  have HGs1 : Hid (Still W w1) := hid (Still.trans ((Fr.refl _ W).drew) hs1)
  clear he hz1 hs1 hqp1 HN1
  refine hK _ _ ?_
  clear hK K
  refine wpAnyI_ready trivial (rs := [11]) (by kernel_rfl) (by simp) ?_
  refine AllI.cons rfl rfl (fun K hK => ?_) AllI.nil
  go_simp
  refine HN2.out.mono ?_
  rintro e w2 ⟨q2, p2, he, hqp2, hz2, hs2⟩
  rw [he]
  have HS2 := hid hs2
  have HZ2 := hid hz2
  have HQ2 := hid hqp2
  clear he hz2 hs2 hqp2 HN2
  refine hK _ _ ?_
  clear hK K
  refine wpAnyI_take (i := 12) (v := ?tv17_6) rfl rfl (by kernel_rfl) (by kernel_rfl) (by kernel_rfl) (fun _ _ _ h => h) (fun u hu => ?ty17_6) ?tk17_6
  case ty17_6 => (go_simp; try rfl)
  refine wpAnyI_take (i := 13) (v := ?tv18_6) rfl rfl (by kernel_rfl) (by kernel_rfl) (by kernel_rfl) (fun _ _ _ h => h) (fun u hu => ?ty18_6) ?tk18_6
  case ty18_6 => (go_simp; try rfl)
  refine wpAnyI_done trivial (by kernel_rfl) ?_ _
  have HF2 := hid (yfull_any q2 p2 a0 ⟨bd, 0, false⟩ w2.drew (HZ2.out.still ((Fr.refl _ w2).drew)))
  rw [HFu.out] at HF2
  dsimp only at HF2
  go_wp2_with fail
  refine region_I (fun _ => True) (by kernel_rfl) ?_
  refine wpAnyI_take (i := 0) (v := ?tv19_6) rfl rfl (by kernel_rfl) (by kernel_rfl) (by kernel_rfl) (fun _ _ _ h => h) (fun u hu => ?ty19_6) ?tk19_6
  case ty19_6 => (go_simp; try rfl)
  refine wpAnyI_take (i := 2) (v := ?tv20_6) rfl rfl (by kernel_rfl) (by kernel_rfl) (by kernel_rfl) (fun _ _ _ h => h) (fun u hu => ?ty20_6) ?tk20_6
  case ty20_6 => (go_simp; try rfl)
  refine wpAnyI_take (i := 3) (v := ?tv21_6) rfl rfl (by kernel_rfl) (by kernel_rfl) (by kernel_rfl) (fun _ _ _ h => h) (fun u hu => ?ty21_6) ?tk21_6
  case ty21_6 => (go_simp; try rfl)
  refine wpAnyI_take (i := 4) (v := ?tv22_6) rfl rfl (by kernel_rfl) (by kernel_rfl) (by kernel_rfl) (fun _ _ _ h => h) (fun u hu => ?ty22_6) ?tk22_6
  case ty22_6 => (go_simp; try rfl)
  refine wpAnyI_take (i := 5) (v := ?tv23_6) rfl rfl (by kernel_rfl) (by kernel_rfl) (by kernel_rfl) (fun _ _ _ h => h) (fun u hu => ?ty23_6) ?tk23_6
  case ty23_6 => (go_simp; try rfl)
  refine wpAnyI_take (i := 6) (v := ?tv24_6) rfl rfl (by kernel_rfl) (by kernel_rfl) (by kernel_rfl) (fun _ _ _ h => h) (fun u hu => ?ty24_6) ?tk24_6
  case ty24_6 => (go_simp; try rfl)
  refine wpAnyI_ready trivial (rs := [1]) (by kernel_rfl) (by simp) ?_
  refine AllI.cons rfl rfl (fun K hK => ?_) AllI.nil
  go_simp
  refine HF2.out.mono ?_
  rintro e w3 ⟨he, hz3⟩
  rw [he]
  have hRF : ∀ k, RF q2 p2 k → w1.heap.size ≤ k := fun k hk => by have := HQ2.out; rcases hk with hk | hk <;> omega
  have HS3 : Hid (Still w1 w3) := hid (Fr.trans (HS2.out.trans ((Fr.refl _ w2).drew)) hz3.f (fun k hk e => by have := hRF k e; omega))
  have HO3 := hid (dof_any ao (n - 8) cap bt w3 (HRa.out _ (HS1.out.trans HS3.out)) (HTb.out _ (HS1.out.trans HS3.out)))
  rw [HOf.out] at HO3
  clear he hz3 HF2 hRF
  refine hK _ _ ?_
  clear hK K
  refine wpAnyI_ready trivial (rs := [7]) (by kernel_rfl) (by simp) ?_
  refine AllI.cons rfl rfl (fun K hK => ?_) AllI.nil
  go_simp
  refine HO3.out.mono ?_
  rintro e w4 ⟨he, hs4⟩
  rw [he]
  have HS4 := hid (HS3.out.trans hs4)
  clear he hs4 HO3 HS3
  refine hK _ _ ?_
  clear hK K
  have heq : m' = m := HSm.out.1 (by rw [← HDe.out.2.1, ← HDe.out.2.2]; exact hs)
  subst heq
  refine wpAnyI_take (i := 8) (v := ?tv34_6) rfl rfl (by kernel_rfl) (by kernel_rfl) (by kernel_rfl) (fun _ _ _ h => h) (fun u hu => ?ty34_6) ?tk34_6
  case ty34_6 => (go_simp; try rfl)
  refine wpAnyI_done trivial (by kernel_rfl) ?_ _
  have HS5 := hid (HS1.out.trans HS4.out)
  have HD5 := hid (HD0.out.still (HGs1.out.trans HS4.out))
  have HZ4 := hid (HZ1.out.still HS4.out)
  have HQ4 : Hid (q1 < w4.heap.size ∧ p1 < w4.heap.size) := hid HZ4.out.lt
  have HLe : Hid ((dgM ⟨bt, 0, false⟩).1.cs.length ≤ 336) := hid (dgM_cs _)
  have HDg := hid (ydg_any q1 p1 a0 ⟨bt, 0, false⟩ w4 HZ4.out)
  obtain ⟨hY1, hY2⟩ := says_yes par_dg (B := bt) (d := d) (by rw [← HDe.out.2.1]; exact hd)
  obtain ⟨DD, SS, eDS⟩ : ∃ a b, dgM ⟨bt, 0, false⟩ = (a, b) := ⟨_, _, rfl⟩
  rw [eDS] at HDg hY1 hY2 HLe
  dsimp only at HDg hY1 hY2 HLe
  subst hY1
  have HYy := hid hY2
  clear hY2 eDS
  go_wp2_with fail
  refine HDg.out.mono ?_
  rintro e w5 ⟨co, cn, cp, he, ho5, ht5⟩
  rw [he]
  have hRF : ∀ k, RF q1 p1 k → W.heap.size ≤ k := fun k hk => by
    have h3 := HQ1.out
    have h4 : W.drew.heap.size = W.heap.size := rfl
    rcases hk with hk | hk <;> omega
  have HS6 : Hid (Still W w5) := hid (Fr.trans (HGs1.out.trans HS4.out) ht5.f (fun k hk e => by have := hRF k e; omega))
  have A5 := Still.alloc w5 (.cells (dgc DD co cn cp) 25)
  have HEn := hid (yend_any q1 p1 a0 SS (w5.alloc (.cells (dgc DD co cn cp) 25)) (ht5.r.still A5))
  have HO5 := hid (ho5.still A5)
  have HS7 := hid (HS6.out.trans A5)
  have HDv := hid (newDg_b w5 DD co cn cp)
  have HW4 : Hid (w.heap.size ≤ w4.heap.size ∧ W.heap.size ≤ w4.heap.size) := hid ⟨HS5.out.size, (HGs1.out.trans HS4.out).size⟩
  have HQq : Hid (q1 < w5.heap.size ∧ p1 < w5.heap.size) := hid ht5.r.lt
  clear he ho5 ht5 A5 hRF HDg
  rw [HYy.out] at HEn
  go_wp2_with fail
  refine HEn.out.mono ?_
  rintro e w8 ⟨he, ht8⟩
  rw [he]
  have hRF : ∀ k, RF q1 p1 k → W.heap.size ≤ k := fun k hk => by
    have h3 := HQ1.out
    have h4 : W.drew.heap.size = W.heap.size := rfl
    rcases hk with hk | hk <;> omega
  have HS8 : Hid (Still W w8) := hid (Fr.trans HS7.out ht8.f (fun k hk e => by have := hRF k e; omega))
  have HSw : Hid (Still w w8) := hid (HA.out.trans HS8.out)
  have HD8 := hid (HD0.out.still HS8.out)
  have hnq : ¬ RF q1 p1 w5.heap.size := fun e => by
    have h5 := HQq.out
    rcases e with e | e <;> omega
  have HV8 := hid (HDv.out.to hnq ht8)
  have HO8 : Hid (OwG KCc 42 w8 w4.heap.size (.slice co cn cp) DD.cs) := hid (HO5.out.keep ht8.f (fun k hk e => by
    have h5 := (HO5.out.block e).1
    have h6 := HQ4.out
    rcases hk with hk | hk <;> omega))
  clear he ht8 hRF HEn hnq
  have hyv : yv a0 false = .nilIface := rfl
  rw [hyv]
  clear hyv
  obtain ⟨v0, v1, v2, v3, v4, v5, v6, v7, _⟩ := HV8.out.cells
  have hlen8 : cn = DD.cs.length := HO8.out.len16
  have HCk := hid (wchk16_any DD co cn cp w8 (by rw [hlen8] at HO8 ⊢; exact HO8.out.rdz (by
    have := HLe.out
    omega)))
  rw [show chkD DD = 0 by unfold chkD; rw [hok]; rfl] at HCk
  clear hlen8
  go_wp2_with fail
  refine HCk.out.mono ?_
  rintro e w9 ⟨he, hs9⟩
  rw [he]
  have HS9 := hid (HSw.out.trans hs9)
  have HD9 := hid (HD8.out.still hs9)
  have HV9 := hid (HV8.out.still hs9)
  have HO9 := hid (HO8.out.still hs9)
  clear he hs9 HCk v0 v1 v2 v3 v4 v5 v6 v7
  obtain ⟨v0, v1, v2, v3, v4, v5, v6, v7, _⟩ := HV9.out.cells
  obtain ⟨f0, f1, f2, f3, f4, f5, f6, f7, ff⟩ := HD9.out.cells
  have j0 := ff 0
  have j1 := ff 1
  have j2 := ff 2
  have j3 := ff 3
  have j4 := ff 4
  have j5 := ff 5
  have j6 := ff 6
  have j7 := ff 7
  go_wp2_with fail
  have hff := setDg_fr (Fr.refl (fun k => k = g2) w9) g2 DD co cn cp (.inl rfl)
  have HFs : Still w (setDg w9 g2 DD co cn cp) := Fr.trans HS9.out hff (fun k hk e => by have := HG2.out; omega)
  exact bodyPost_ret ((HD9.out.set DD co cn cp).rest rfl _ _ rfl rfl) rfl ⟨co, cn, cp, rfl, (HO9.out.keep hff (fun k hk e => by
    have h5 := (HO9.out.block e).1
    have h6 := HW4.out
    have h7 := HWs.out
    omega)).less HW4.out.1, HFs⟩
theorem parse_any (B : Nat) (a0 a1 a2 : Addr) (ao : Option Addr) (n cap : Nat) (b : List UInt8) (w : World) (ht : FTab w) (hr : Rd w ao n cap b) (hE : ETab w B a0 a1 a2) :
    Calls Tryz.prog 26 #[.slice ao n cap] w fun e w' => PrsR w w' a0 a1 a2 (dec16 b) e := by
  by_cases hb : 16384 < b.length ∨ b.length < 8
  · exact parse_len B a0 a1 a2 ao n cap b hb w hr hE
  · by_cases hs : sumZ (b.take (b.length - 8)) = b.drop (b.length - 8)
    · cases hd : saysD (b.take (b.length - 8)) with
      | none =>
        rw [dec_none hb hs hd]
        exact parse_none B a0 a1 a2 ao n cap b hb hs hd w ht hr hE
      | some d =>
        rw [dec_some hb hs hd]
        cases hok : okD d with
        | false => exact parse_bad B a0 a1 a2 ao n cap b hb hs d hd hok w ht hr hE
        | true => exact parse_ok B a0 a1 a2 ao n cap b hb hs d hd hok w ht hr hE
    · rw [dec_sum hb hs]
      exact parse_sum B a0 a1 a2 ao n cap b hb hs w ht hr hE
end Go.Proofs.YtaaongbdincimaaGreatDoor
