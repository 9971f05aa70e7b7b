/- The program's writer of a datagram: an order. -/
import Derived.Test.YtaaongbdincimaaGreatDoorWwa
namespace Go.Proofs.YtaaongbdincimaaGreatDoor
open Go.RowKit
open Wp Vp
set_option maxRecDepth 100000
set_option linter.unusedVariables false

theorem take_arg (v a b c : Int) {i : Nat} (h : i < nOp v) : ([a, b, c].take (i + 1)).flatMap sgB = ([a, b, c].take i).flatMap sgB ++ sgB (gv a b c i) := by
  have hn := nOp_le v
  rcases (show i = 0 ∨ i = 1 by omega) with rfl | rfl
  · simp [gv]
  · simp [gv]
theorem arg_len (a b c : Int) (h : ∀ x ∈ [a, b, c], -9223372036854775808 ≤ x ∧ x ≤ 9223372036854775807) (i : Nat) : (([a, b, c].take i).flatMap sgB).length ≤ 30 := by
  have ha := sgB_le (h a (by simp)).1 (h a (by simp)).2
  have hb := sgB_le (h b (by simp)).1 (h b (by simp)).2
  have hc := sgB_le (h c (by simp)).1 (h c (by simp)).2
  match i with
  | 0 => simp
  | 1 => simp; omega
  | 2 => simp; omega
  | n + 3 => simp; omega
set_option maxHeartbeats 4000000 in
theorem zorder_any (p : Nat) (ao : Option Addr) (bs : List UInt8) (v a b c : Int) (hv : 1 ≤ v ∧ v ≤ 7) (hx : ∀ x ∈ [a, b, c], -9223372036854775808 ≤ x ∧ x ≤ 9223372036854775807) (hb : bs.length + 51 ≤ 16384) (w : World) (hw : Wz w p ao bs) :
    Calls Tryz.prog 61 #[wzv p, od v a b c] w fun r w' => r = .returned (.tuple #[]) ∧ ∃ ao', Lz w w' p ao ao' bs (by8 v :: argB v a b c) := by
  have A0 := Still.alloc w (.cells #[.pointer (some ⟨p, 0, none⟩)] 50)
  have B0 := Ofz.new hw #[.pointer (some ⟨p, 0, none⟩)] 50
  have A1 := Still.alloc (w.alloc (.cells #[.pointer (some ⟨p, 0, none⟩)] 50)) (.cells #[.int .i64 v, .int .i64 a, .int .i64 b, .int .i64 c] 40)
  have B1 := Ofz.new (hw.still A0) #[.int .i64 v, .int .i64 a, .int .i64 b, .int .i64 c] 40
  have B0 := B0.still A1
  have A0 := A0.trans A1
  obtain ⟨W, eW⟩ : ∃ W, (w.alloc (.cells #[.pointer (some ⟨p, 0, none⟩)] 50)).alloc (.cells #[.int .i64 v, .int .i64 a, .int .i64 b, .int .i64 c] 40) = W := ⟨_, rfl⟩
  rw [size_alloc] at B1
  obtain ⟨g, eg⟩ : ∃ g, w.heap.size = g := ⟨_, rfl⟩
  rw [eW] at A0 B0 B1
  rw [eg] at B0 B1
  have HA := hid A0
  have HB := hid B0
  have HO := hid B1
  have HW := hid (hw.still A0)
  clear A0 A1 B0 B1 hw
  have c0 := HB.out.wr
  have d0 := HO.out.cell 0
  have d1 := HO.out.cell 1
  have d2 := HO.out.cell 2
  have d3 := HO.out.cell 3
  simp only [List.getElem?_cons_zero, List.getElem?_cons_succ] at d0 d1 d2 d3
  have hcv : IntKind.u8.wrap v = v := by rw [IntKind.wrap_u8]; omega
  have HC := hid (zbyte_any p ao bs (by8 v) v (by8_to (by omega) (by omega)).symm (by omega) W HW.out)
  have HX := hid hx
  clear hx
  go_enter Tryz.func61, Tryz.ntmps61
  go_wp2_with fail
  refine HC.out.mono ?_
  rintro e w1 ⟨he, ao1, h1⟩
  rw [he]
  clear c0 d0 d1 d2 d3 HC
  have HL1 := hid h1
  have c0 := (HB.out.on h1).wr
  have d0 := (HO.out.on h1).cell 0
  have d1 := (HO.out.on h1).cell 1
  have d2 := (HO.out.on h1).cell 2
  have d3 := (HO.out.on h1).cell 3
  simp only [List.getElem?_cons_zero, List.getElem?_cons_succ] at d0 d1 d2 d3
  have hg1 : g + 1 < w1.heap.size := block_lt (HO.out.on h1).b
  have A2 := Still.alloc w1 (.cells #[.int .i64 a, .int .i64 b, .int .i64 c] 95)
  have B2 := Ofz.new h1.q #[.int .i64 a, .int .i64 b, .int .i64 c] 95
  have N2 := newN3 w1 a b c
  have HP := hid (ops_any v (w1.alloc (.cells #[.int .i64 a, .int .i64 b, .int .i64 c] 95)))
  have HO2 : Hid (Ofz _ _ _ _ _) := hid ((HO.out.on h1).still A2)
  have HB2 := hid ((HB.out.on h1).still A2)
  have HL2 := hid (h1.still A2)
  obtain ⟨W2, eW2⟩ : ∃ W, w1.alloc (.cells #[.int .i64 a, .int .i64 b, .int .i64 c] 95) = W := ⟨_, rfl⟩
  obtain ⟨n3, en3⟩ : ∃ g, w1.heap.size = g := ⟨_, rfl⟩
  rw [eW2] at HO2 HB2 HL2 B2 N2 HP
  rw [en3] at B2 N2
  have k0 := HO2.out.cell 0
  simp only [List.getElem?_cons_zero] at k0
  have HN2 := hid B2
  have HE2 := hid eW2
  clear he h1 A2 B2 N2 HB HO HL1
  go_wp2_with fail
  refine HP.out.mono ?_
  rintro e w3 ⟨x, he, ho3, h3⟩
  rw [he]
  obtain ⟨xo, xc, ex, _⟩ := ho3.slice
  subst ex
  have HL3 := hid (HL2.out.still h3)
  have HB3 := hid (HB2.out.still h3)
  have HN3 := hid (HN2.out.still h3)
  have hno : (opV v).length = nOp v := rfl
  rw [hno]
  have hn2 := nOp_le v
  obtain ⟨N, eN⟩ : ∃ N, nOp v = N := ⟨_, rfl⟩
  have HN := hid eN
  rw [eN] at hn2 ⊢
  clear he ho3 h3 k0 c0 d0 d1 d2 d3 HP HO2 HB2 HN2 hno eN HE2 eW2 HL2
  go_wp2_with fail
  go_loopw [5, 23] (fun u5 u23 wr => ∃ (i : Nat) (ao2 : Option Addr), i ≤ N ∧ u23 = .int .i64 (i : Int) ∧ Hid (Lz w wr p ao ao2 bs (by8 v :: ([a, b, c].take i).flatMap sgB)) ∧ Hid (Ofz wr p ao2 g (wzo p)) ∧ Hid (Ofz wr p ao2 n3 (.cells #[.int .i64 a, .int .i64 b, .int .i64 c] 95 (0, 0)))) (fun _ u23 _ => N - (intOf u23).toNat)
  case atStart => exact ⟨0, ao1, by omega, rfl, hid (by have := HL3.out.from HA.out; simpa using this), HB3, HN3⟩
  case round =>
    obtain ⟨i, ao2, hi, rfl, HLr, HBr, HNr⟩ := hrel
    by_cases hin : i < N
    · have hlt : (i : Int) < (N : Int) := by omega
      have hi3 : (i : Int) < 3 := by omega
      have c0 := HBr.out.wr
      have c1 : wr.cell? ⟨n3, i, none⟩ = some (.int .i64 (gv a b c i)) := Arb.at (show Arb wr n3 a b c from HNr.out.b) i (by omega)
      have HT : Hid (by8 v :: ([a, b, c].take (i + 1)).flatMap sgB = (by8 v :: ([a, b, c].take i).flatMap sgB) ++ sgB (gv a b c i)) := hid (by rw [take_arg v a b c (by rw [HN.out]; exact hin)]; rfl)
      have hgv : -9223372036854775808 ≤ gv a b c i ∧ gv a b c i ≤ 9223372036854775807 := HX.out _ (by
        rcases (show i = 0 ∨ i = 1 by omega) with rfl | rfl <;> simp [gv])
      have HC := hid (zint_any p ao2 (bs ++ (by8 v :: ([a, b, c].take i).flatMap sgB)) (gv a b c i) hgv.1 hgv.2 (by
        have := arg_len a b c HX.out i
        rw [List.length_append, List.length_cons]
        omega) wr.drew (HLr.out.q.still ((Fr.refl _ wr).drew)))
      obtain ⟨z, ez⟩ : ∃ z, gv a b c i = z := ⟨_, rfl⟩
      rw [ez] at c1 HT HC
      have HZ := hid ez
      clear ez hgv
      go_wp2_with fail
      refine region_I (fun u => u.cell? ⟨g, 0, none⟩ = some (.pointer (some ⟨p, 0, none⟩)) ∧ u.cell? ⟨n3, i, none⟩ = some (.int .i64 z)) (by kernel_rfl) ?_
      refine wpAnyI_take (i := 0) (v := ?tv0) rfl rfl (by kernel_rfl) (by kernel_rfl) (by kernel_rfl) (fun _ _ _ h => h) (fun u hu => ?ty0) ?tk0
      case ty0 => (go_simp; try rfl)
      refine wpAnyI_take (i := 1) (v := ?tv1) rfl rfl (by kernel_rfl) (by kernel_rfl) (by kernel_rfl) (fun _ _ _ h => h) (fun u hu => ?ty1) ?tk1
      case ty1 => (go_simp; try rfl)
      refine wpAnyI_take (i := 2) (v := ?tv2) rfl rfl (by kernel_rfl) (by kernel_rfl) (by kernel_rfl) (fun _ _ _ h => h) (fun u hu => ?ty2) ?tk2
      case ty2 => (go_simp; try rfl)
      refine wpAnyI_take (i := 3) (v := ?tv3) rfl rfl (by kernel_rfl) (by kernel_rfl) (by kernel_rfl) (fun _ _ _ h => h) (fun u hu => ?ty3) ?tk3
      case ty3 => (go_simp; try rfl)
      refine wpAnyI_take (i := 4) (v := ?tv4) rfl rfl (by kernel_rfl) (by kernel_rfl) (by kernel_rfl) (fun _ _ _ h => h) (fun u hu => ?ty4) ?tk4
      case ty4 => (go_simp; try rfl)
      refine wpAnyI_ready ⟨c0, c1⟩ (rs := [5]) (by kernel_rfl) (by simp) ?_
      refine AllI.cons rfl rfl (fun K hK => ?_) AllI.nil
      go_simp
      refine HC.out.mono ?_
      rintro e w4 ⟨he, ao4, h4⟩
      rw [he]
      have c4 := (HBr.out.still ((Fr.refl _ wr).drew)).on h4
      have n4 := (HNr.out.still ((Fr.refl _ wr).drew)).on h4
      have l4 := (HLr.out.still ((Fr.refl _ wr).drew)).trans h4
      have HI : Hid (w4.cell? ⟨g, 0, none⟩ = some (.pointer (some ⟨p, 0, none⟩)) ∧ w4.cell? ⟨n3, i, none⟩ = some (.int .i64 z)) := hid ⟨c4.wr, by
        have := n4.b
        have h5 := Arb.at (show Arb w4 n3 a b c from n4.b) i (by omega)
        rw [h5, HZ.out]⟩
      have HL4 := hid (show Lz w w4 p ao ao4 bs (by8 v :: ([a, b, c].take (i + 1)).flatMap sgB) by rw [HT.out]; exact l4)
      have HB4 := hid c4
      have HN4 := hid n4
      clear he h4 c4 n4 l4 HC HLr HBr HNr HT c0 c1
      refine hK _ _ ?_
      clear hK K
      refine wpAnyI_done HI.out (by kernel_rfl) ?_ _
      go_wp2_with fail
      go_roundw
      case rel => exact ⟨i + 1, ao4, by omega, by go_num, HL4, HB4, HN4⟩
      case measure => simp [intOf]; omega
    · obtain rfl : i = N := by omega
      have HL4 : Hid (Lz w wr p ao ao2 bs (by8 v :: argB v a b c)) := hid (by unfold argB; rw [HN.out]; exact HLr.out)
      go_wp2_with fail
      go_end0
      exact ⟨rfl, ao2, HL4.out⟩
end Go.Proofs.YtaaongbdincimaaGreatDoor
