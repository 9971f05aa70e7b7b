/- The law on maps that may be or not, their texts, starts and spots. -/
import Derived.Test.YtnoaomocdmkigaaOa
import Derived.Test.YtnoaomocdmkigaaPw
import Derived.Deep.RegionHeld3
namespace Go.Proofs.Ytnoaomocdmkigaa
open Go.RowKit
open Pu Gp Ap

set_option maxHeartbeats 4000000 in
/-- two lists of the same points are the same -/
theorem same_any (B B' : Nat) (v v' : Value) (ps : List (Int × Int)) (hl : ps.length ≤ 100000) (w : World) (h : OwP w B v ps) (h' : OwP w B' v' ps) :
    Calls Try.prog 17 #[v, v'] w fun e w' => e = .returned (.bool true) ∧ Still w w' := by
  obtain ⟨ao, cap, rfl, hao⟩ := h.slice
  obtain ⟨ao', cap', rfl, hao'⟩ := h'.slice
  obtain ⟨n, en⟩ : ∃ n, ps.length = n := ⟨_, rfl⟩
  have HO := hid h
  have HO' := hid h'
  have HN := hid en
  rw [en] at hl HO HO' ⊢
  clear h h' hao hao' en
  go_enter Try.func17, Try.ntmps17
  go_wp2_with fail
  go_loopw [5] (fun u wr => ∃ j : Nat, j ≤ n ∧ u = .int .i64 (j : Int) ∧ Still w wr) (fun u _ => n - (intOf u).toNat)
  case atStart => exact ⟨0, by omega, rfl, Fr.refl _ _⟩
  case round =>
    obtain ⟨j, hj, rfl, hs⟩ := hrel
    by_cases hlt : j < n
    · have o1 := HO.out.still hs
      have o2 := HO'.out.still hs
      obtain ⟨g, cg, e1, _, _⟩ := o1.head (by rw [HN.out]; omega)
      obtain ⟨g', cg', e2, _, _⟩ := o2.head (by rw [HN.out]; omega)
      cases e1
      cases e2
      have k1 := o1.cell j (by rw [HN.out]; exact hlt)
      have k2 := o2.cell j (by rw [HN.out]; exact hlt)
      obtain ⟨p, ep⟩ : ∃ p, ps[j]'(by rw [HN.out]; exact hlt) = p := ⟨_, rfl⟩
      rw [ep] at k1 k2
      obtain ⟨X, Y⟩ := p
      have f0 := Cl.cell k1.1
      have f1 := Cl.cell k1.2.1
      have f2 := Cl.cell k2.1
      have f3 := Cl.cell k2.2.1
      have hne := Aft.here wr
      have N1 := neq_pt_f (x := X) (y := Y) (z := X) (u := Y) ⟨rfl, rfl⟩
      have G1 := guard_pt
      have HS := hid hs
      clear k1 k2 ep o1 o2 hs
      go_wp2_with fail
      refine region_all (by kernel_rfl) (by kernel_rfl) ?_
      repeat (go_big_quiet_step (fail))
      refine wpQuiet_nil ?_
      intro w2 h2
      have HS2 := hid (HS.out.trans h2)
      clear f0 f1 f2 f3 hne h2 HS
      go_wp2_with fail
      go_roundw
      case rel => exact ⟨j + 1, by omega, by go_num, HS2.out⟩
      case measure => simp [intOf]; omega
    · have HS := hid hs
      clear hs
      go_wp2_with fail
      go_ret
      exact ⟨rfl, HS.out⟩
set_option maxHeartbeats 8000000 in
set_option maxRecDepth 100000 in
theorem checks_law (C R : Int) (s : ByteArray) (hC : C ≤ 9223372036854775807) (hz : s.size ≤ 140737488355328) (w : World) :
    Calls Try.prog 4 #[ar C R s] w fun e w' => e = .returned (.bool true) ∧ Still w w' := by
  have a0 := newA_ab w C R s
  have HS0 := hid (Still.alloc w (.cells #[.int .i64 C, .int .i64 R, .string s] 24))
  go_enter Try.func4, Try.ntmps4
  go_wp2_with fail
  refine (awake_any _).mono ?_
  rintro e w1 ⟨rfl, h1⟩
  have a1 := a0.still h1
  have HS1 := hid (HS0.out.trans h1)
  clear a0 HS0 h1
  obtain ⟨c0, c1, c2, cf⟩ := a1.cells
  go_wp2_with fail
  refine (print_any C R s _).mono ?_
  rintro e w2 ⟨v, rfl, hv, h2⟩
  have a2 := a1.still h2
  have HS2 := hid (HS1.out.trans h2)
  clear a1 HS1 h2 c0 c1 c2 cf
  obtain ⟨c0, c1, c2, cf⟩ := a2.cells
  obtain ⟨T, eT⟩ : ∃ T, prtT C R s v = T := ⟨_, rfl⟩
  rw [eT]
  go_wp2_with fail
  refine (rprint_any C R s (by omega) _).mono ?_
  rintro e w3 ⟨v', rfl, hv', h3⟩
  obtain rfl := chkV_one hv' hv
  rw [eT]
  have HV := hid hv
  have a3 := a2.still h3
  have HS3 := hid (HS2.out.trans h3)
  clear a2 HS2 h3 c0 c1 c2 cf eT hv hv'
  obtain ⟨c0, c1, c2, cf⟩ := a3.cells
  go_wp2_with fail
  refine (starts_any C R s _).mono ?_
  rintro e w4 ⟨vl, u, rfl, hu, ol, h4⟩
  obtain rfl := chkV_one hu HV.out
  clear hu
  have hl1 : (stV C s u).length ≤ 6 := by
    unfold stV
    split
    · rw [stP_len]; exact mny_six s
    · simp
  obtain ⟨L, eL⟩ : ∃ L, stV C s u = L := ⟨_, rfl⟩
  rw [eL] at ol hl1
  have hb3 : w.heap.size < w3.heap.size := block_lt a3
  have hb4 : w3.heap.size ≤ w4.heap.size := h4.size
  have HG := hid (show ∀ k, vl.ownBlock = some k → k < w4.heap.size from fun k hk => (ol.block hk).2)
  have a4 := a3.still h4
  have HS4 := hid (HS3.out.trans h4)
  clear a3 HS3 h4 c0 c1 c2 cf
  obtain ⟨c0, c1, c2, cf⟩ := a4.cells
  go_wp2_with fail
  refine (spots_any C R s _).mono ?_
  rintro e w5 ⟨vm, u', rfl, hu, om, h5⟩
  obtain rfl := chkV_one hu HV.out
  clear hu
  have hl2 : (spV C s u').length ≤ 768 := by
    unfold spV
    by_cases k : u' = 0
    · rw [if_pos k]
      have q := form_shape (chkV_ok (k ▸ HV.out))
      have := spP_len C.toNat s s.size
      omega
    · rw [if_neg k]; simp
  obtain ⟨M, eM⟩ : ∃ M, spV C s u' = M := ⟨_, rfl⟩
  rw [eM] at om hl2
  have a5 := a4.still h5
  have ol5 := ol.still h5
  have HS5 := hid (HS4.out.trans h5)
  have HZ5 := hid (show w4.heap.size ≤ w5.heap.size from h5.size)
  clear a4 ol HS4 h5 c0 c1 c2 cf
  obtain ⟨c0, c1, c2, cf⟩ := a5.cells
  go_wp2_with fail
  refine (rstarts_any C R s (by omega) _).mono ?_
  rintro e w6 ⟨vl2, u2, rfl, hu, ol2, h6⟩
  obtain rfl := chkV_one hu HV.out
  clear hu
  rw [eL] at ol2
  have a6 := a5.still h6
  have ol6 := ol5.still h6
  have om6 := om.still h6
  have HS6 := hid (HS5.out.trans h6)
  have HZ6 := hid (Nat.le_trans HZ5.out h6.size)
  clear a5 ol5 om HS5 HZ5 h6 c0 c1 c2 cf
  obtain ⟨c0, c1, c2, cf⟩ := a6.cells
  go_wp2_with fail
  refine (same_any _ _ vl vl2 L (by omega) _ ol6 ol2).mono ?_
  rintro e w7 ⟨rfl, h7⟩
  have a7 := a6.still h7
  have ol7 := ol6.still h7
  have om7 := om6.still h7
  have HS7 := hid (HS6.out.trans h7)
  have HZ7 := hid (Nat.le_trans HZ6.out h7.size)
  clear a6 ol6 om6 HS6 HZ6 h7 c0 c1 c2 cf ol2
  obtain ⟨c0, c1, c2, cf⟩ := a7.cells
  go_wp2_with fail
  refine (rspots_any C R s (by omega) _).mono ?_
  rintro e w8 ⟨vm2, u3, rfl, hu, om2, h8⟩
  obtain rfl := chkV_one hu HV.out
  clear hu
  rw [eM] at om2
  have a8 := a7.still h8
  have ol8 := ol7.still h8
  have om8 := om7.still h8
  have HS8 := hid (HS7.out.trans h8)
  have HZ8 := hid (Nat.le_trans HZ7.out h8.size)
  clear a7 ol7 om7 HS7 HZ7 h8 c0 c1 c2 cf
  obtain ⟨c0, c1, c2, cf⟩ := a8.cells
  go_wp2_with fail
  refine (same_any _ _ vm vm2 M (by omega) _ om8 om2).mono ?_
  rintro e w9 ⟨rfl, h9⟩
  have a9 := a8.still h9
  have ol9 := ol8.still h9
  have om9 := om8.still h9
  have HS9 := hid (HS8.out.trans h9)
  have HZ9 := hid (Nat.le_trans HZ8.out h9.size)
  clear a8 ol8 om8 HS8 HZ8 h9 c0 c1 c2 cf om2
  obtain ⟨aol, capl, rfl, _⟩ := ol9.slice
  obtain ⟨aom, capm, rfl, _⟩ := om9.slice
  obtain ⟨nl, enl⟩ : ∃ n, L.length = n := ⟨_, rfl⟩
  obtain ⟨nm, enm⟩ : ∃ n, M.length = n := ⟨_, rfl⟩
  rw [enl] at hl1 ol9 HG ⊢
  rw [enm] at hl2 om9 ⊢
  have HE := hid (And.intro (And.intro eL eM) (And.intro enl enm))
  clear eL eM enl enm
  have HQ : Hid (∀ (v : Value) (ps : List (Int × Int)) (u : World) (k : Nat), OwP u w4.heap.size v ps → v.ownBlock = some k → (.slice aol nl capl : Value).ownBlock ≠ some k) := hid (fun v ps u k ho hk e => by
    have := HG.out k e
    have := (ho.block hk).1
    omega)
  go_wp2_with fail
  go_loopw [11] (fun u wr => ∃ (j : Nat) (ps qs : List (Int × Int)), j ≤ nl ∧ u = .int .i64 (j : Int) ∧ ps.length = nl ∧ qs.length = nm ∧ w4.heap.size ≤ wr.heap.size ∧ OwP wr w3.heap.size (.slice aol nl capl) ps ∧ OwP wr w4.heap.size (.slice aom nm capm) qs ∧ Ab wr w.heap.size C R s ∧ Still w wr) (fun u _ => nl - (intOf u).toNat)
  case atStart => exact ⟨0, L, M, by omega, rfl, HE.out.2.1, HE.out.2.2, HZ9.out, ol9, om9, a9, HS9.out⟩
  case round =>
    obtain ⟨j, ps, qs, hj, rfl, hps, hqs, hz0, o1, o2, a1, hs⟩ := hrel
    have HS1 := hid hs
    have HO2 := hid o2
    clear hs ol9 om9 a9 HS9 o2
    by_cases hlt : j < nl
    · obtain ⟨g, cg, e1, g1, g2⟩ := o1.head (by omega)
      rw [hps] at e1
      cases e1
      have k1 := o1.cell j (by omega)
      have o3 := o1.set j (by omega) (-7 - (j : Int)) 0
      have HL3 := hid (show (ps.set j (-7 - (j : Int), 0)).length = nl by rw [List.length_set]; exact hps)
      obtain ⟨f0, f1, ff⟩ := k1
      have HF : Hid (Fr (fun k => k = g) wr ((wr.setCell ⟨g, j * 2, none⟩ (.int .i64 (-7 - (j : Int)))).setCell ⟨g, j * 2 + 1, none⟩ (.int .i64 0))) := hid (Fr.setCell (F := fun k => k = g) (Fr.setCell (F := fun k => k = g) (Fr.refl _ wr) ⟨g, j * 2, none⟩ _ (.inl rfl)) ⟨g, j * 2 + 1, none⟩ _ (.inl rfl))
      have HZ3 := hid (Nat.le_trans hz0 HF.out.size)
      have HO3 := hid (HO2.out.keep HF.out (fun k hk e => HQ.out _ _ _ k HO2.out e (by rw [hk]; rfl)))
      have HA3 := hid (a1.keep HF.out (show ¬ w.heap.size = g by omega))
      have HS3 := hid (Fr.setCell (Fr.setCell HS1.out ⟨g, j * 2, none⟩ (.int .i64 (-7 - (j : Int))) (.inr (show w.heap.size ≤ g by omega))) ⟨g, j * 2 + 1, none⟩ (.int .i64 0) (.inr (show w.heap.size ≤ g by omega)))
      have HO1 := hid o3
      clear o1 o3 HO2 HS1 a1 HF
      go_wp2_with fail
      go_roundw
      case rel => exact ⟨j + 1, _, qs, by omega, by go_num, HL3.out, hqs, HZ3.out, HO1.out, HO3.out, HA3.out, HS3.out⟩
      case measure => simp [intOf]; omega
    · have hge : ¬ (j : Int) < (nl : Int) := by omega
      clear hlt
      have HO1 := hid o1
      clear o1
      go_wp2_with fail
      go_loopw [12] (fun u wr => ∃ (j : Nat) (ps qs : List (Int × Int)), j ≤ nm ∧ u = .int .i64 (j : Int) ∧ ps.length = nl ∧ qs.length = nm ∧ w4.heap.size ≤ wr.heap.size ∧ OwP wr w3.heap.size (.slice aol nl capl) ps ∧ OwP wr w4.heap.size (.slice aom nm capm) qs ∧ Ab wr w.heap.size C R s ∧ Still w wr) (fun u _ => nm - (intOf u).toNat)
      case atStart => exact ⟨0, ps, qs, by omega, rfl, hps, hqs, hz0, HO1.out, HO2.out, a1, HS1.out⟩
      case round =>
        clear HO1 HO2 HS1 a1 hps hqs hz0
        obtain ⟨j, ps, qs, hj, rfl, hps, hqs, hz0, o1, o2, a1, hs⟩ := hrel
        have HS1 := hid hs
        have HO1 := hid o1
        clear hs o1
        by_cases hlt : j < nm
        · obtain ⟨g, cg, e1, g1, g2⟩ := o2.head (by omega)
          rw [hqs] at e1
          cases e1
          have k1 := o2.cell j (by omega)
          have o3 := o2.set j (by omega) 0 (-7 - (j : Int))
          have HL3 := hid (show (qs.set j (0, -7 - (j : Int))).length = nm by rw [List.length_set]; exact hqs)
          obtain ⟨f0, f1, ff⟩ := k1
          have HF : Hid (Fr (fun k => k = g) wr ((wr.setCell ⟨g, j * 2, none⟩ (.int .i64 0)).setCell ⟨g, j * 2 + 1, none⟩ (.int .i64 (-7 - (j : Int))))) := hid (Fr.setCell (F := fun k => k = g) (Fr.setCell (F := fun k => k = g) (Fr.refl _ wr) ⟨g, j * 2, none⟩ _ (.inl rfl)) ⟨g, j * 2 + 1, none⟩ _ (.inl rfl))
          have HZ3 := hid (Nat.le_trans hz0 HF.out.size)
          have HO3 := hid (HO1.out.keep HF.out (fun k hk e => HQ.out _ _ _ k o2 (by rw [hk]; rfl) e))
          have HA3 := hid (a1.keep HF.out (show ¬ w.heap.size = g by omega))
          have HS3 := hid (Fr.setCell (Fr.setCell HS1.out ⟨g, j * 2, none⟩ (.int .i64 0) (.inr (show w.heap.size ≤ g by omega))) ⟨g, j * 2 + 1, none⟩ (.int .i64 (-7 - (j : Int))) (.inr (show w.heap.size ≤ g by omega)))
          have HO2 := hid o3
          clear o2 o3 HO1 HS1 a1 HF
          go_wp2_with fail
          go_roundw
          case rel => exact ⟨j + 1, ps, _, by omega, by go_num, hps, HL3.out, HZ3.out, HO3.out, HO2.out, HA3.out, HS3.out⟩
          case measure => simp [intOf]; omega
        · have hge : ¬ (j : Int) < (nm : Int) := by omega
          clear hlt
          have HO2 := hid o2
          have HS2 := hid (HS1.out.trans (Still.alloc wr (.cells #[.int .i64 (-5), .int .i64 0] 36)))
          have HO3 := hid (HO1.out.alloc (.cells #[.int .i64 (-5), .int .i64 0] 36))
          have HO4 := hid (HO2.out.alloc (.cells #[.int .i64 (-5), .int .i64 0] 36))
          have HA2 := hid (a1.still (Still.alloc wr (.cells #[.int .i64 (-5), .int .i64 0] 36)))
          have HP2 := hid (newP_pb wr (-5) 0)
          have HZ := hid (show w3.heap.size ≤ (newP wr (-5) 0).heap.size from Nat.le_trans hb4 (Nat.le_trans hz0 (Still.alloc wr (.cells #[.int .i64 (-5), .int .i64 0] 36)).size))
          have HY := hid (show w4.heap.size ≤ (newP wr (-5) 0).heap.size from Nat.le_trans hz0 (Still.alloc wr (.cells #[.int .i64 (-5), .int .i64 0] 36)).size)
          have HK := hid (show ps.length ≤ 100000 by omega)
          clear o2 a1 HS1 HO1 HO2 hz0
          go_wp2_with (at_builtin; first
            | (refine wpList_appP _ rfl _ _ rfl w4.heap.size w'.heap.size _ qs (-6) 0 rfl rfl HO4.out HP2.out HK.out HZ.out ?_; intro v' w'' ho' hf')
            | (
              refine wpList_appP _ rfl _ _ rfl w3.heap.size wr.heap.size _ ps (-5) 0 rfl rfl HO3.out HP2.out HK.out HZ.out ?_
              intro v' w' ho' hf'
              obtain ⟨al, cl, rfl, _⟩ := ho'.slice
              rw [List.length_append, hps]
              have HY1 := hid (Nat.le_trans HY.out hf'.size)
              have HO5 := hid (HO4.out.keep hf' (fun k hk e => HQ.out _ _ _ k HO4.out e hk))
              have HA5 := hid (HA2.out.keep hf' (fun hk => by have := (HO3.out.block hk).1; omega))
              have HS5 := hid (still_appP HS2.out HO3.out hf' (Nat.le_of_lt hb3))
              clear ho' hf' HO3 HO4 HA2 HS2 HY HZ HP2 HK
              have HS2 := hid (HS5.out.trans (Still.alloc w' (.cells #[.int .i64 (-6), .int .i64 0] 36)))
              have HO4 := hid (HO5.out.alloc (.cells #[.int .i64 (-6), .int .i64 0] 36))
              have HA2 := hid (HA5.out.still (Still.alloc w' (.cells #[.int .i64 (-6), .int .i64 0] 36)))
              have HP2 := hid (newP_pb w' (-6) 0)
              have HZ := hid (show w4.heap.size ≤ (newP w' (-6) 0).heap.size from Nat.le_trans HY1.out (Still.alloc w' (.cells #[.int .i64 (-6), .int .i64 0] 36)).size)
              have HK := hid (show qs.length ≤ 100000 by omega)
              clear HO5 HA5 HS5 HY1))
          obtain ⟨am, cm, rfl, _⟩ := ho'.slice
          rw [List.length_append, hqs]
          have a1 := HA2.out.keep hf' (fun hk => by have := (HO4.out.block hk).1; omega)
          have HS1 := hid (still_appP HS2.out HO4.out hf' (by omega))
          clear ho' hf' HO4 HA2 HS2 HZ HP2 HK
          obtain ⟨c0, c1, c2, cf⟩ := a1.cells
          have HL := hid (show L.length ≤ 100000 ∧ M.length ≤ 100000 by have := HE.out.2; omega)
          go_wp2_with fail
          have HSd := hid (show Still w'' w''.drew from (Fr.refl _ w'').drew)
          have HC := hid (show C ≤ 9223372036854775807 ∧ s.size ≤ 281474976710656 from ⟨hC, by omega⟩)
          go_region_held3 (fun w' => w'.cell? ⟨w.heap.size, 0, none⟩ = some (.int .i64 C) ∧ w'.cell? ⟨w.heap.size, 1, none⟩ = some (.int .i64 R) ∧ w'.cell? ⟨w.heap.size, 2, none⟩ = some (.string s)) (go_keep)
            (first
              | (go_at_call 15
                 refine (starts_any C R s _).mono ?_
                 rintro e x1 ⟨v1, u1, rfl, hu, ol1, g1⟩
                 rw [chkV_one hu HV.out, HE.out.1.1] at ol1
                 have b1 := a1.still (Still.trans HSd.out g1)
                 have HS2 := hid (Still.trans HS1.out (Still.trans HSd.out g1))
                 have HO1 := hid ol1
                 obtain ⟨d0, d1, d2, _⟩ := b1.cells
                 clear hu ol1 g1)
              | (go_at_call 18
                 refine (rstarts_any C R s (by have := HC.out.2; omega) _).mono ?_
                 rintro e x2 ⟨v2, u2, rfl, hu, ol2, g2⟩
                 rw [chkV_one hu HV.out, HE.out.1.1] at ol2
                 have b2 := b1.still g2
                 have HS3 := hid (Still.trans HS2.out g2)
                 have HO2 := hid (HO1.out.still g2)
                 have HO3 := hid ol2
                 obtain ⟨d3, d4, d5, _⟩ := b2.cells
                 clear hu ol2 g2)
              | (go_at_call_of 17 v1
                 refine (same_any _ _ v1 v2 L HL.out.1 _ HO2.out HO3.out).mono ?_
                 rintro e x3 ⟨rfl, g3⟩
                 have b3 := b2.still g3
                 have HS4 := hid (Still.trans HS3.out g3)
                 obtain ⟨d6, d7, d8, _⟩ := b3.cells
                 clear g3)
              | (go_at_call 16
                 refine (spots_any C R s _).mono ?_
                 rintro e x4 ⟨v3, u3', rfl, hu, ol1, g1⟩
                 rw [chkV_one hu HV.out, HE.out.1.2] at ol1
                 have b4 := b3.still g1
                 have HS5 := hid (Still.trans HS4.out g1)
                 have HO4 := hid ol1
                 obtain ⟨d0, d1, d2, _⟩ := b4.cells
                 clear hu ol1 g1)
              | (go_at_call 19
                 refine (rspots_any C R s (by have := HC.out.2; omega) _).mono ?_
                 rintro e x5 ⟨v4, u4, rfl, hu, ol2, g2⟩
                 rw [chkV_one hu HV.out, HE.out.1.2] at ol2
                 have b5 := b4.still g2
                 have HS6 := hid (Still.trans HS5.out g2)
                 have HO5 := hid (HO4.out.still g2)
                 have HO6 := hid ol2
                 obtain ⟨d3, d4, d5, _⟩ := b5.cells
                 clear hu ol2 g2)
              | (go_at_call_of 17 v3
                 refine (same_any _ _ v3 v4 M HL.out.2 _ HO5.out HO6.out).mono ?_
                 rintro e x6 ⟨rfl, g3⟩
                 have b6 := b5.still g3
                 have HS7 := hid (Still.trans HS6.out g3)
                 obtain ⟨d6, d7, d8, _⟩ := b6.cells
                 clear g3))
          clear HSd
          have HSd := hid (show Still x6 x6.drew from (Fr.refl _ x6).drew)
          clear HS1 HS2 HS3 HS4 HS5 HS6 HO1 HO2 HO3 HO4 HO5 HO6 b1 b2 b3 b4 b5
          have HG2 := hid (show decide ((1 : Int) < IntKind.i64.wrap ((nl : Int) + 1 + ((nm : Int) + 1))) = true by rw [IntKind.wrap_i64] <;> simp <;> omega)
          go_wp2_with fail
          go_region_held3 (fun w' => w'.cell? ⟨w.heap.size, 0, none⟩ = some (.int .i64 C) ∧ w'.cell? ⟨w.heap.size, 1, none⟩ = some (.int .i64 R) ∧ w'.cell? ⟨w.heap.size, 2, none⟩ = some (.string s)) (go_keep)
            (first
              | (go_at_call 12
                 refine (mapcheck_any C R s _).mono ?_
                 rintro e y1 ⟨u4, rfl, hu, g1⟩
                 rw [chkV_one hu HV.out]
                 have b1 := b6.still (Still.trans HSd.out g1)
                 have HS2 := hid (Still.trans HS7.out (Still.trans HSd.out g1))
                 obtain ⟨d0, d1, d2, _⟩ := b1.cells
                 clear hu g1)
              | (go_at_call 20
                 refine (rmapcheck_any C R s (by have := HC.out.2; omega) _).mono ?_
                 rintro e y2 ⟨u5, rfl, hu, g2⟩
                 rw [chkV_one hu HV.out]
                 have b2 := b1.still g2
                 have HS3 := hid (Still.trans HS2.out g2)
                 obtain ⟨d3, d4, d5, _⟩ := b2.cells
                 clear hu g2))
          go_wp2_with fail
          go_ret
          exact ⟨by rw [HG2.out]; rfl, HS3.out⟩
end Go.Proofs.Ytnoaomocdmkigaa
