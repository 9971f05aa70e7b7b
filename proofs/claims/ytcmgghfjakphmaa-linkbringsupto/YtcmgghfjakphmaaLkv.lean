/- The law LinkBrings. -/
import Derived.Test.YtcmgghfjakphmaaLla
import Derived.Test.YtcmgghfjakphmaaLlb
namespace Go.Proofs.Ytcmgghfjakphmaa
open Go.RowKit
open Wp Vp Lp
set_option maxRecDepth 100000
set_option linter.unusedVariables false
set_option linter.unusedSimpArgs false

def zSt : Stq := ⟨false, 0, 0, 0, 0, 0, 0, 0⟩
def KSt : Kd Stq := ⟨fun s => (stc s).toList, 8, zSt, fun _ => rfl, fun m u hu => by
  simp at hu
  rcases hu with rfl | rfl | rfl | rfl | rfl | rfl | rfl | rfl <;> rfl, by decide⟩
def sq (L : List Stq) (i : Nat) : Stq := L.getD i zSt
theorem rdSt {w : World} {B o n : Nat} {L : List Stq} (h : RdG KSt w (some ⟨B, o, none⟩) n L) {i : Nat} (hi : i < n) : w.cell? ⟨B, o + i * 8, none⟩ = some (.bool (sq L i).br) ∧ w.cell? ⟨B, o + i * 8 + 1, none⟩ = some (.int .i64 (sq L i).n) ∧ w.cell? ⟨B, o + i * 8 + 2, none⟩ = some (.int .i64 (sq L i).on) ∧ w.cell? ⟨B, o + i * 8 + 3, none⟩ = some (.int .i64 (sq L i).fa) ∧ w.cell? ⟨B, o + i * 8 + 4, none⟩ = some (.int .i64 (sq L i).v) ∧ w.cell? ⟨B, o + i * 8 + 5, none⟩ = some (.int .i64 (sq L i).a) ∧ w.cell? ⟨B, o + i * 8 + 6, none⟩ = some (.int .i64 (sq L i).b) ∧ w.cell? ⟨B, o + i * 8 + 7, none⟩ = some (.int .i64 (sq L i).c) :=
  ⟨h.get hi 0 _ rfl, h.get hi 1 _ rfl, h.get hi 2 _ rfl, h.get hi 3 _ rfl, h.get hi 4 _ rfl, h.get hi 5 _ rfl, h.get hi 6 _ rfl, h.get hi 7 _ rfl⟩
/-- behind i steps -/
def HoY (w0 w : World) (hb pb : Nat) (i : Nat) : Prop := ∃ H L m S g mq mt, HoM w0 w hb H L L m S g g mq mt ∧ H.pb = pb ∧ m ≤ 3 * (i : Int) ∧ S.length ≤ i
theorem HoY.start {w w1 w2 : World} {pa ma pb mb : Nat} (la : Lkk w1 w.heap.size pa ma none 0 (zLn 7 0 1)) (h1 : Still w w1) (lb : Lkk w2 w1.heap.size pb mb none 0 (zLn 7 1 0)) (h2 : Still w1 w2) : HoY w (w2.alloc (.cells #[.pointer (some ⟨pa, 0, none⟩), .pointer (some ⟨pb, 0, none⟩), .slice none 0 0, .int .i64 0, .slice none 0 0, .slice none 0 0, .bool true] 32)) w2.heap.size pb 0 := by
  have A := Still.alloc w2 (.cells #[.pointer (some ⟨pa, 0, none⟩), .pointer (some ⟨pb, 0, none⟩), .slice none 0 0, .int .i64 0, .slice none 0 0, .slice none 0 0, .bool true] 32)
  have la2 := (la.still h2).still A
  have lb2 := lb.still A
  have l1 := la.lt
  have l2 := lb.lp
  have l3 := lb.lm
  have hs := h1.size
  have hs2 := h2.size
  refine ⟨⟨pa, ma, none, 0, pb, mb, none, 0, none, 0, none, 0, []⟩, [], 0, [], 0, 0, false, ⟨heap_alloc_new w2 _, la2, ⟨lb2.bk, Kp.nil _ _, lb2.mp, (by show w.heap.size ≤ pb; omega), (by show w.heap.size ≤ mb; omega)⟩, OwG.nil _ _, OwG.nil _ _, Nat.le_refl _, OwG.nil _ _, rfl, fun j hj => by simp at hj, (fun k e => ?_), (fun k e => ?_), ⟨?_, ?_⟩, by omega, (h1.trans h2).trans A, HoI.start⟩, rfl, by omega, Nat.le_refl _⟩
  · obtain ⟨a, ha, _⟩ := e; cases ha
  · obtain ⟨a, ha, _⟩ := e; cases ha
  · show pa ≠ pb; omega
  · show ma ≠ mb; omega
set_option maxHeartbeats 16000000 in
theorem brings18_law (so : Option Addr) (n cap : Nat) (T : List Stq) (hn : n ≤ 1048576) (w : World) (hr : RdG KSt w so n T) (hT : ∀ i, i < n → In64 (sq T i).n ∧ In64 (sq T i).on ∧ In64 (sq T i).fa ∧ In64 (sq T i).a) : Calls Try.prog 3 #[.slice so n cap] w fun e w' => e = .returned (.bool true) ∧ Still w w' := by
  have HA := hid (lnew_yes 7 0 1 (by decide) w)
  have HB := hid (fun w => lnew_yes 7 1 0 (by decide) w)
  have HR := hid hr
  have HTt := hid hT
  clear hr hT
  go_enter Try.func3, Try.ntmps3
  go_wp2_with fail
  refine HA.out.mono ?_
  rintro e w1 ⟨pa, ma, he, la, h1⟩
  rw [he]
  have HLa := hid la
  have HS1 := hid h1
  clear he la h1 HA
  go_wp2_with fail
  refine (HB.out _).mono ?_
  rintro e w2 ⟨pb, mb, he, lb, h2⟩
  rw [he]
  have HI0 := hid (HoY.start HLa.out HS1.out lb h2)
  obtain ⟨hb, ehb⟩ : ∃ k, w2.heap.size = k := ⟨_, rfl⟩
  obtain ⟨w3, e3⟩ : ∃ V, w2.alloc (.cells #[.pointer (some ⟨pa, 0, none⟩), .pointer (some ⟨pb, 0, none⟩), .slice none 0 0, .int .i64 0, .slice none 0 0, .slice none 0 0, .bool true] 32) = V := ⟨_, rfl⟩
  rw [e3, ehb] at HI0
  clear he lb h2 HB HLa HS1
  go_upto_region 7 with fail
  clear e3 ehb
  go_loopw [8] (fun u8 wr => ∃ i : Nat, i ≤ n ∧ u8 = .int .i64 (i : Int) ∧ Hid (HoY w wr hb pb i)) (fun u8 _ => n - (intOf u8).toNat)
  case atStart => exact ⟨0, by omega, rfl, HI0⟩
  case round =>
    obtain ⟨i, hi, rfl, HI⟩ := hrel
    obtain ⟨H, L, m, S, g, mq, mt, hm, hpb, hmi, hSi⟩ := HI.out
    obtain ⟨c0, c1, c2, c3, c4, c5, c6, cf⟩ := hm.cells
    have HM := hid hm
    have HPb := hid hpb
    by_cases hin : i < n
    · have hlt : (i : Int) < (n : Int) := by omega
      obtain ⟨Bq, oq, eso⟩ := HR.out.at (by omega)
      subst eso
      obtain ⟨k0, k1, k2, k3, k4, k5, k6, k7⟩ := rdSt (HR.out.still hm.st) hin
      obtain ⟨t1, t2, t3, t4⟩ := HTt.out i hin
      obtain ⟨x, ex⟩ : ∃ x, sq T i = x := ⟨_, rfl⟩
      rw [ex] at k0 k1 k2 k3 k4 k5 k6 k7 t1 t2 t3 t4
      have hwi : IntKind.i64.wrap ((i : Int) + 1) = (i : Int) + 1 := wr64 (by omega) (by omega)
      clear ex hm hpb
      cases hbr : x.br with
      | true =>
        rw [hbr] at k0
        by_cases hS0 : S.length = 0
        · have HAr : Hid (Calls Try.prog 6 #[.pointer (some ⟨hb, 0, none⟩), .int .i64 x.n] wr fun e w' => e = .returned (.tuple #[]) ∧ w' = wr) := hid (by
            have e : S = [] := List.eq_nil_of_length_eq_zero hS0
            subst e
            exact larr_none hb x.n H L m g mq mt w wr HM.out)
          clear t1 t2 t3 t4 hS0
          go_wp2_with fail
          refine HAr.out.mono ?_
          rintro e w4 ⟨he, rfl⟩
          rw [he]
          have HI4 : Hid (HoY w w4 hb pb (i + 1)) := hid ⟨H, L, m, S, g, mq, mt, HM.out, HPb.out, by omega, by omega⟩
          clear he HAr c0 c1 c2 c3 c4 c5 c6 cf k0 k1 k2 k3 k4 k5 k6 k7
          go_wp2_with fail
          go_roundw
          case rel => exact ⟨i + 1, by omega, by go_num, HI4⟩
          case measure => simp [intOf]; omega
        · have HAr := hid (larr_some hb x.n t1 H L m S g mq mt (by omega) (by omega) w wr HM.out)
          clear t1 t2 t3 t4 hS0
          go_wp2_with fail
          refine HAr.out.mono ?_
          rintro e w4 ⟨he, H4, h4, hp4⟩
          rw [he]
          have HI4 : Hid (HoY w w4 hb pb (i + 1)) := hid ⟨H4, L, m, S, _, _, true, h4, hp4.trans HPb.out, by omega, by omega⟩
          clear he h4 hp4 HAr c0 c1 c2 c3 c4 c5 c6 cf k0 k1 k2 k3 k4 k5 k6 k7
          go_wp2_with fail
          go_roundw
          case rel => exact ⟨i + 1, by omega, by go_num, HI4⟩
          case measure => simp [intOf]; omega
      | false =>
        rw [hbr] at k0
        have HSe := hid (lsends_any hb x t2 t3 t4 H L m S g mq mt (by omega) (by omega) w wr HM.out)
        unfold stc at HSe
        rw [hbr] at HSe
        clear t1 t2 t3 t4
        go_wp2_with fail
        refine HSe.out.mono ?_
        rintro e w4 ⟨he, H4, L4, m4, h4, hp4, hm4⟩
        rw [he]
        have HI4 : Hid (HoY w w4 hb pb (i + 1)) := hid ⟨H4, L4, m4, _, g, mq, mt, h4, hp4.trans HPb.out, by omega, by simp; omega⟩
        clear he h4 hp4 hm4 HSe c0 c1 c2 c3 c4 c5 c6 cf k0 k1 k2 k3 k4 k5 k6 k7
        go_wp2_with fail
        go_roundw
        case rel => exact ⟨i + 1, by omega, by go_num, HI4⟩
        case measure => simp [intOf]; omega
    · have hlt : ¬ (i : Int) < (n : Int) := by omega
      have HSe := hid (lsends_any hb ⟨false, 0, 1, 1, 0, 0, 0, 0⟩ ⟨by decide, by decide⟩ ⟨by decide, by decide⟩ ⟨by decide, by decide⟩ H L m S g mq mt (by omega) (by omega) w wr HM.out)
      clear hm hpb c0 c1 c2 c3 c4 c5 c6 cf
      go_wp2_with fail
      refine HSe.out.mono ?_
      rintro e w4 ⟨he, H4, L4, m4, h4, hp4, hm4⟩
      rw [he]
      obtain ⟨S4, eS4⟩ : ∃ X, S ++ [(m4, L4.length)] = X := ⟨_, rfl⟩
      rw [eS4] at h4
      have hl4 : S4.length = S.length + 1 := by rw [← eS4]; simp
      have hlast : S4.getD S.length (0, 0) = (m4, L4.length) := by rw [← eS4, List.getD_eq_getElem?_getD, List.getElem?_append_right (Nat.le_refl _)]; simp
      have hpk : pk ((S4.length : Int) - 1) S4.length = (S.length : Int) := by
        unfold pk
        rw [if_neg (by omega), Int.tmod_eq_emod_of_nonneg (by omega), Int.emod_eq_of_lt (by omega) (by omega)]
        omega
      have HAr := hid (larr_some hb ((S4.length : Int) - 1) ⟨by omega, by omega⟩ H4 L4 m4 S4 g mq mt (by omega) (by omega) w w4 h4)
      have e1 : (((S.length : Nat) : Int)).toNat = S.length := by omega
      rw [hpk, e1, hlast] at HAr
      have hg4 : max g L4.length = L4.length := by have := h4.i.g1; omega
      have hq4 : max mq m4 = m4 := by have := h4.i.q1.2.1; omega
      rw [show ((m4, L4.length) : Int × Nat).2 = L4.length from rfl, show ((m4, L4.length) : Int × Nat).1 = m4 from rfl, hg4, hq4] at HAr
      have c4 := h4.cells.2.2.2.2.1
      have hws : IntKind.i64.wrap ((S4.length : Int) - 1) = (S4.length : Int) - 1 := wr64 (by omega) (by omega)
      have HP4 := hid hp4
      clear he h4 hp4 hm4 HSe eS4 hlast hpk e1 hg4 hq4 HM hl4
      go_wp2_with fail
      refine HAr.out.mono ?_
      rintro e w5 ⟨he, H5, h5, hp5⟩
      rw [he]
      have HM5 := hid h5
      have HSt := hid (lstate_any H5.pb none 0 H5.mb w.heap.size (hB L4 L4.length m4 true) w5 h5.lb)
      have epb : H5.pb = pb := hp5.trans (HP4.out.trans HPb.out)
      rw [epb] at HSt
      have hll := h5.i.l1
      clear he h5 hp5 HAr c4 hws epb
      go_wp2_with fail
      refine HSt.out.mono ?_
      rintro e w6 ⟨he, h6⟩
      rw [he]
      have e0 : lsv (hB L4 L4.length m4 true) = .agg #[.int .i64 0, .int .i64 0, .int .i64 ((L4.length : Int) + 1), .int .i64 m4, .bool true] := by
        show Value.agg #[_, _, .int .i64 (((L4.take L4.length).length : Int) + 1), _, _] = _
        rw [List.take_length]
        rfl
      rw [e0]
      have A6 := Still.alloc w6 (.cells #[.int .i64 0, .int .i64 0, .int .i64 0, .int .i64 0, .bool false] 40)
      have hg := heap_alloc_new w6 (.cells #[.int .i64 0, .int .i64 0, .int .i64 0, .int .i64 0, .bool false] 40)
      obtain ⟨g6, eg6⟩ : ∃ g, w6.heap.size = g := ⟨_, rfl⟩
      obtain ⟨W6, eW6⟩ : ∃ W, w6.alloc (.cells #[.int .i64 0, .int .i64 0, .int .i64 0, .int .i64 0, .bool false] 40) = W := ⟨_, rfl⟩
      rw [eW6] at A6 hg
      rw [eg6] at hg
      have f0 : W6.cell? ⟨g6, 0, none⟩ = some (.int .i64 0) := by rw [cell_of_row _ _ _ _ _ _ hg]; rfl
      have f1 : W6.cell? ⟨g6, 1, none⟩ = some (.int .i64 0) := by rw [cell_of_row _ _ _ _ _ _ hg]; rfl
      have f2 : W6.cell? ⟨g6, 2, none⟩ = some (.int .i64 0) := by rw [cell_of_row _ _ _ _ _ _ hg]; rfl
      have f3 : W6.cell? ⟨g6, 3, none⟩ = some (.int .i64 0) := by rw [cell_of_row _ _ _ _ _ _ hg]; rfl
      have f4 : W6.cell? ⟨g6, 4, none⟩ = some (.bool false) := by rw [cell_of_row _ _ _ _ _ _ hg]; rfl
      have ff := fun o => frozen_of_row W6 g6 o _ _ hg
      have hset := heap_setCells g6 40 [.int .i64 0, .int .i64 0, .int .i64 ((L4.length : Int) + 1), .int .i64 m4, .bool true] 0 _ W6 hg (by simp)
      have s7 : Still w6 (W6.setCells g6 0 [.int .i64 0, .int .i64 0, .int .i64 ((L4.length : Int) + 1), .int .i64 m4, .bool true]) := fr_setCells g6 _ 0 W6 A6 (.inr (by omega))
      obtain ⟨W7, eW7⟩ : ∃ W, W6.setCells g6 0 [.int .i64 0, .int .i64 0, .int .i64 ((L4.length : Int) + 1), .int .i64 m4, .bool true] = W := ⟨_, rfl⟩
      rw [eW7] at hset s7
      simp only [World.setCells] at eW7
      have HM7 := hid (HM5.out.still (h6.trans s7))
      obtain ⟨c0, c1, c2, c3, c4, c5, c6, cf⟩ := HM7.out.cells
      have m2 : W7.cell? ⟨g6, 2, none⟩ = some (.int .i64 ((L4.length : Int) + 1)) := by rw [cell_of_row _ _ _ _ _ _ hset]; rfl
      have m3 : W7.cell? ⟨g6, 3, none⟩ = some (.int .i64 m4) := by rw [cell_of_row _ _ _ _ _ _ hset]; rfl
      have m4' : W7.cell? ⟨g6, 4, none⟩ = some (.bool true) := by rw [cell_of_row _ _ _ _ _ _ hset]; rfl
      have q2 := Cl.cell c2
      have q3 := Cl.cell c3
      have q5 := Cl.cell c5
      have q6 := Cl.cell c6
      have r2 := Cl.cell m2
      have r3 := Cl.cell m3
      have r4 := Cl.cell m4'
      have hne := Aft.here W7
      have hwl : IntKind.i64.wrap ((L4.length : Int) + 1) = (L4.length : Int) + 1 := wr64 (by omega) (by omega)
      have b1 : ((L4.length : Int) == (L4.length : Int)) = true := by simp
      have b2 : (m4 == m4) = true := by simp
      have b3 : ((L4.length : Int) + 1 == (L4.length : Int) + 1) = true := by simp
      clear he h6 A6 hg hset s7 HSt e0 HM5 c0 c1 c2 c3 c4 c5 c6 cf m2 m3 m4'
      go_upto_region 15 with fail
      clear f0 f1 f2 f3 f4 ff eW6 eW7
      refine region_all (by kernel_rfl) (by kernel_rfl) ?_
      repeat (go_big_quiet_step (rfl))
      refine wpQuiet_nil ?_
      intro w8 h8
      have HS8 := hid (HM7.out.st.trans h8)
      clear h8 q2 q3 q5 q6 r2 r3 r4 hne
      go_wp2_with fail
      go_ret
      exact ⟨rfl, HS8.out⟩
end Go.Proofs.Ytcmgghfjakphmaa
