/- What the program reads is what the document asks. -/
import Derived.Test.YtaaongbdincimaaGreatDoorWlb
import Derived.Test.YtaaongbdincimaaGreatDoorWef
namespace Go.Proofs.YtaaongbdincimaaGreatDoor
open Go.RowKit
open Wp Vp
set_option maxRecDepth 100000
set_option linter.unusedVariables false
set_option linter.unusedSimpArgs false

theorem dec_cs (b : List UInt8) : (dec16 b).1.cs.length ≤ 336 := by
  unfold dec16
  split
  · exact Nat.zero_le _
  · split
    · split
      · exact Nat.zero_le _
      · split
        · rename_i hok
          obtain ⟨_, _, h3⟩ := okD_parts hok
          rcases h3 with ⟨_, _, _, h, _⟩ | ⟨_, _, _, h⟩
          · exact h
          · rw [h]; exact Nat.zero_le _
        · exact Nat.zero_le _
    · exact Nat.zero_le _
def cm1 : Cc := ⟨0, 0, -1, 0, 0, 0, 0⟩
def cm2 : Cc := ⟨0, 0, -2, 0, 0, 0, 0⟩
set_option maxHeartbeats 8000000 in
theorem reads16_law (ao : Option Addr) (n cap : Nat) (bs : List UInt8) (h47 : n + 8 ≤ 140737488355328) (B : Nat) (a0 a1 a2 : Addr) (w : World) (ht : FTab w) (hE : ETab w B a0 a1 a2) (hO : OTab w) (hr : Rd w ao n cap bs) : Calls Tryz.prog 4 #[.slice ao n cap] w fun e w' => e = .returned (.bool true) ∧ Still w w' := by
  have HAw := hid (awake16_any B a0 a1 a2 w ht hE)
  have HSl : Hid (∀ u, Still w u → Calls Tryz.prog 15 #[.slice ao n cap] u fun e w' => ∃ ao' cap', e = .returned (.slice ao' (n + 8) cap') ∧ Ow 5 w' ao' (n + 8) cap' (bs ++ sumZ bs) ∧ Still u w' ∧ ∀ a, ao' = some a → u.heap.size ≤ a.block) := hid (fun u hu => rseal_any ao n cap bs u (hr.still hu) h47)
  have HP1 : Hid (∀ u, Still w u → Calls Tryz.prog 12 #[.slice ao n cap] u fun e w' => DecR u w' (dec16 bs) e) := hid (fun u hu => wdec_any B a0 a1 a2 ao n cap bs u (ht.still hu) (hr.still hu) (hE.still hu))
  have HR1 : Hid (∀ u, Still w u → Calls Tryz.prog 13 #[.slice ao n cap] u fun e w' => DecR u w' (dec16 bs) e) := hid (fun u hu => rdec16_any ao n cap bs u (hO.still hu) (hr.still hu))
  have HP2 : Hid (∀ u, Still w u → ∀ ao cap, Rd u ao (n + 8) cap (bs ++ sumZ bs) → Calls Tryz.prog 12 #[.slice ao (n + 8) cap] u fun e w' => DecR u w' (dec16 (bs ++ sumZ bs)) e) := hid (fun u hu ao cap h => wdec_any B a0 a1 a2 ao (n + 8) cap (bs ++ sumZ bs) u (ht.still hu) h (hE.still hu))
  have HR2 : Hid (∀ u, Still w u → ∀ ao cap, Rd u ao (n + 8) cap (bs ++ sumZ bs) → Calls Tryz.prog 13 #[.slice ao (n + 8) cap] u fun e w' => DecR u w' (dec16 (bs ++ sumZ bs)) e) := hid (fun u hu ao cap h => rdec16_any ao (n + 8) cap (bs ++ sumZ bs) u (hO.still hu) h)
  have hl1 := dec_cs bs
  have hl2 := dec_cs (bs ++ sumZ bs)
  obtain ⟨⟨D1, r1⟩, e1⟩ : ∃ x, dec16 bs = x := ⟨_, rfl⟩
  rw [e1] at HP1 HR1 hl1
  obtain ⟨X, eX⟩ : ∃ X, bs ++ sumZ bs = X := ⟨_, rfl⟩
  rw [eX] at HSl HP2 HR2 hl2
  obtain ⟨⟨D2, r2⟩, e2⟩ : ∃ x, dec16 X = x := ⟨_, rfl⟩
  rw [e2] at HP2 HR2 hl2
  dsimp only at hl1 hl2
  obtain ⟨N, eN⟩ : ∃ N, n + 8 = N := ⟨_, rfl⟩
  rw [eN] at HSl HP2 HR2
  obtain ⟨l1, el1⟩ : ∃ l, D1.cs.length = l := ⟨_, rfl⟩
  obtain ⟨l2, el2⟩ : ∃ l, D2.cs.length = l := ⟨_, rfl⟩
  have HL1 := hid el1
  have HL2 := hid el2
  rw [el1] at hl1
  rw [el2] at hl2
  clear ht hE hO hr e1 e2 eX eN h47 el1 el2
  go_enter Tryz.func4, Tryz.ntmps4
  go_wp2_with fail
  refine HAw.out.mono ?_
  rintro e w1 ⟨he, h1⟩
  rw [he]
  have HS1 := hid h1
  clear he h1 HAw
  go_wp2_with fail
  refine (HP1.out _ HS1.out).mono ?_
  rintro e w2 ⟨co2, cn2, cp2, he, ho2, h2⟩
  rw [he]
  dsimp only at ho2 ⊢
  obtain rfl : cn2 = l1 := ho2.len16.trans HL1.out
  have A2 := Still.alloc w2 (.cells (dgc D1 co2 cn2 cp2) 25)
  have HR2a : Hid (RdG KCc (newDg w2 D1 co2 cn2 cp2) co2 cn2 D1.cs) := hid (by
    have h := ho2.still A2
    have e := HL1.out
    rw [← e] at h ⊢
    exact h.rdz (by omega))
  have HV2 := hid (newDg_b w2 D1 co2 cn2 cp2)
  have HS2 := hid ((HS1.out.trans h2).trans A2)
  clear he ho2 h2 A2 HS1 HP1
  go_upto_region 3 with fail
  unfold newDg at HR2a HV2
  obtain ⟨w3, e3⟩ : ∃ u, w2.alloc (.cells (dgc D1 co2 cn2 cp2) 25) = u := ⟨_, rfl⟩
  obtain ⟨ga, ega⟩ : ∃ u, w2.heap.size = u := ⟨_, rfl⟩
  rw [e3] at HR2a HV2 HS2
  rw [e3, ega]
  rw [ega] at HV2
  clear e3 ega
  go_wp2_with fail
  refine (HR1.out _ HS2.out).mono ?_
  rintro e w4 ⟨co4, cn4, cp4, he, ho4, h4⟩
  rw [he]
  dsimp only at ho4 ⊢
  obtain rfl : cn4 = cn2 := ho4.len16.trans HL1.out
  have A4 := Still.alloc w4 (.cells (dgc D1 co4 cn4 cp4) 25)
  have HR4a : Hid (RdG KCc (newDg w4 D1 co4 cn4 cp4) co4 cn4 D1.cs) := hid (by
    have h := ho4.still A4
    have e := HL1.out
    rw [← e] at h ⊢
    exact h.rdz (by omega))
  have HV4 := hid (newDg_b w4 D1 co4 cn4 cp4)
  have HT4 := hid (h4.trans A4)
  clear he ho4 h4 A4 HR1
  go_upto_region 4 with fail
  unfold newDg at HR4a HV4
  obtain ⟨w5, e3⟩ : ∃ u, w4.alloc (.cells (dgc D1 co4 cn4 cp4) 25) = u := ⟨_, rfl⟩
  obtain ⟨gb, ega⟩ : ∃ u, w4.heap.size = u := ⟨_, rfl⟩
  rw [e3] at HR4a HV4 HT4
  rw [e3, ega]
  rw [ega] at HV4
  clear e3 ega
  have HSm := hid (rsame16_t D1 co2 co4 cn4 cp2 cp4 w5 (HR2a.out.still HT4.out) HR4a.out)
  have HS5 := hid (HS2.out.trans HT4.out)
  obtain ⟨m0, m1, m2, m3, m4, m5, m6, m7, _⟩ := (HV2.out.still HT4.out).cells
  obtain ⟨k0, k1, k2, k3, k4, k5, k6, k7, _⟩ := HV4.out.cells
  clear HR2a HR4a HV2 HV4 HT4 HS2
  go_wp2_with fail
  refine HSm.out.mono ?_
  rintro e w6 ⟨he, h6⟩
  rw [he]
  have HS6 := hid (HS5.out.trans h6)
  clear he h6 HSm HS5 m0 m1 m2 m3 m4 m5 m6 m7 k0 k1 k2 k3 k4 k5 k6 k7
  go_wp2_with fail
  refine (HSl.out _ HS6.out).mono ?_
  rintro e w7 ⟨ao7, cap7, he, ho7, h7, _⟩
  rw [he]
  have HS7 := hid (HS6.out.trans h7)
  have HX7 := hid ho7.rd
  clear he ho7 h7 HS6 HSl
  go_wp2_with fail
  refine (HR2.out _ HS7.out ao7 cap7 HX7.out).mono ?_
  rintro e w8 ⟨co8, cn8, cp8, he, ho8, h8⟩
  rw [he]
  dsimp only at ho8 ⊢
  obtain rfl : cn8 = l2 := ho8.len16.trans HL2.out
  have A8 := Still.alloc w8 (.cells (dgc D2 co8 cn8 cp8) 25)
  have HR8 : Hid (RdG KCc (newDg w8 D2 co8 cn8 cp8) co8 cn8 D2.cs) := hid (by
    have h := ho8.still A8
    have e := HL2.out
    rw [← e] at h ⊢
    exact h.rdz (by omega))
  have HV8 := hid (newDg_b w8 D2 co8 cn8 cp8)
  have HS8 := hid ((HS7.out.trans h8).trans A8)
  have HX8 := hid (HX7.out.still (h8.trans A8))
  clear he ho8 h8 A8 HS7 HX7 HR2
  go_upto_region 7 with fail
  unfold newDg at HR8 HV8
  obtain ⟨w9, e3⟩ : ∃ u, w8.alloc (.cells (dgc D2 co8 cn8 cp8) 25) = u := ⟨_, rfl⟩
  obtain ⟨gc, ega⟩ : ∃ u, w8.heap.size = u := ⟨_, rfl⟩
  rw [e3] at HR8 HV8 HS8 HX8
  rw [e3, ega]
  rw [ega] at HV8
  clear e3 ega
  go_wp2_with fail
  refine (HP2.out _ HS8.out ao7 cap7 HX8.out).mono ?_
  rintro e w10 ⟨co, cn, cp, he, ho10, h10⟩
  rw [he]
  dsimp only at ho10 ⊢
  obtain rfl : cn = cn8 := ho10.len16.trans HL2.out
  have A10 := Still.alloc w10 (.cells (dgc D2 co cn cp) 25)
  have HO10 := hid (ho10.still A10)
  have HV10 := hid (newDg_b w10 D2 co cn cp)
  have HT10 := hid (h10.trans A10)
  have HOb : Hid (∀ k, (Value.slice co cn cp).ownBlock = some k → w9.heap.size ≤ k ∧ k < w10.heap.size) := hid (fun k hk => ho10.block hk)
  clear he ho10 h10 A10
  go_upto_region 8 with fail
  unfold newDg at HV10
  obtain ⟨w11, e3⟩ : ∃ u, w10.alloc (.cells (dgc D2 co cn cp) 25) = u := ⟨_, rfl⟩
  obtain ⟨gd, ega⟩ : ∃ u, w10.heap.size = u := ⟨_, rfl⟩
  rw [e3] at HO10 HV10 HT10
  rw [e3, ega]
  rw [ega] at HV10 HOb
  clear e3 ega
  go_wp2_with fail
  go_loopw [14] (fun vi wr => ∃ (i : Nat) (M : List Cc), i ≤ cn ∧ vi = .int .i64 (i : Int) ∧ Hid (M.length = cn ∧ OwG KCc 42 wr w9.heap.size (.slice co cn cp) M ∧ Still w9 wr ∧ Dgb wr gd D2 co cn cp)) (fun vi _ => cn - (intOf vi).toNat)
  case atStart => exact ⟨0, D2.cs, Nat.zero_le _, rfl, hid ⟨HL2.out, HO10.out, HT10.out, HV10.out⟩⟩
  case round =>
    clear HO10 HV10 HT10
    obtain ⟨i, M, hi, rfl, HH⟩ := hrel
    obtain ⟨m0, m1, m2, m3, m4, m5, m6, m7, _⟩ := HH.out.2.2.2.cells
    by_cases hlt : i < cn
    · have hlt' : (i : Int) < (cn : Int) := by omega
      obtain ⟨g, cg, ev, _, _⟩ := HH.out.2.1.head (by rw [HH.out.1]; omega)
      injection ev with ev1 ev2 ev3
      subst ev1
      have hiM : i < M.length := by rw [HH.out.1]; exact hlt
      obtain ⟨d0, d1, d2, d3, d4, d5, d6, df⟩ := owCc HH.out.2.1 (i := i) hiM
      have hg := HOb.out g rfl
      have hf := fr_setCells (F := fun k => k = g) g (KCc.f cm1) (i * KCc.k) wr (Fr.refl _ wr) (.inl rfl)
      have HN : Hid (OwG KCc 42 (wr.setCells g (i * KCc.k) (KCc.f cm1)) w9.heap.size (.slice (some ⟨g, 0, none⟩) cn cp) (M.set i cm1) ∧ Still w9 (wr.setCells g (i * KCc.k) (KCc.f cm1)) ∧ Dgb (wr.setCells g (i * KCc.k) (KCc.f cm1)) gd D2 (some ⟨g, 0, none⟩) cn cp) := hid ⟨HH.out.2.1.put hiM cm1, fr_setCells g _ _ wr HH.out.2.2.1 (.inr (by omega)), HH.out.2.2.2.other (by omega) hf⟩
      have HMl : Hid ((M.set i cm1).length = cn) := hid (by rw [List.length_set]; exact HH.out.1)
      clear hf hiM ev2 ev3
      go_wp2_with fail
      go_roundw
      case rel => exact ⟨i + 1, M.set i cm1, by omega, by go_num, hid ⟨HMl.out, HN.out.1, HN.out.2.1, HN.out.2.2⟩⟩
      case measure => simp [intOf]; omega
    · have hge : ¬ (i : Int) < (cn : Int) := by omega
      have A12 := Still.alloc wr (.cells #[.int .i64 0, .int .i64 0, .int .i64 (-2), .int .i64 0, .int .i64 0, .int .i64 0, .int .i64 0] 42)
      have HO12 := hid (HH.out.2.1.still A12)
      have HX12 : Hid ((wr.alloc (.cells #[.int .i64 0, .int .i64 0, .int .i64 (-2), .int .i64 0, .int .i64 0, .int .i64 0, .int .i64 0] 42)).heap[wr.heap.size]? = some (.cells #[.int .i64 0, .int .i64 0, .int .i64 (-2), .int .i64 0, .int .i64 0, .int .i64 0, .int .i64 0] 42 (0, 0))) := hid (heap_alloc_new wr _)
      have HB12 : Hid (w9.heap.size ≤ (wr.alloc (.cells #[.int .i64 0, .int .i64 0, .int .i64 (-2), .int .i64 0, .int .i64 0, .int .i64 0, .int .i64 0] 42)).heap.size) := hid (by rw [size_alloc]; have := HH.out.2.2.1.size; omega)
      have HT12 := hid (HH.out.2.2.1.trans A12)
      have HMl := hid HH.out.1
      clear A12
      go_upto_region 13 with (at_builtin; refine wpList_appH KCc _ rfl _ _ 23 rfl Tryz.underlying23 56 infoCc w9.heap.size wr.heap.size _ M cm2 rfl rfl HO12.out HX12.out (by rw [HMl.out]; omega) (by rw [HMl.out]; omega) HB12.out ?_; intro v' w' ho' hf'; obtain ⟨ao', cap', ev', _⟩ := ho'.slice; rw [List.length_append, HMl.out, List.length_singleton] at ev'; subst ev'; have HT13 := hid (still_appG HT12.out HO12.out hf' (Nat.le_refl _)); clear ho' hf')
      have HS13 := hid (HS8.out.trans HT13.out)
      have HX13 := hid (HX8.out.still HT13.out)
      clear HH HO12 HX12 HB12 HT12 HMl m0 m1 m2 m3 m4 m5 m6 m7
      go_wp2_with fail
      refine (HP2.out _ HS13.out ao7 cap7 HX13.out).mono ?_
      rintro e w14 ⟨co14, cn14, cp14, he, ho14, h14⟩
      rw [he]
      dsimp only at ho14 ⊢
      obtain rfl : cn14 = cn := ho14.len16.trans HL2.out
      have A14 := Still.alloc w14 (.cells (dgc D2 co14 cn14 cp14) 25)
      have HR14 : Hid (RdG KCc (newDg w14 D2 co14 cn14 cp14) co14 cn14 D2.cs) := hid (by
        have h := ho14.still A14
        have e := HL2.out
        rw [← e] at h ⊢
        exact h.rdz (by omega))
      have HV14 := hid (newDg_b w14 D2 co14 cn14 cp14)
      have HT14 := hid (HT13.out.trans (h14.trans A14))
      clear he ho14 h14 A14 HS13 HX13 HT13
      go_upto_region 14 with fail
      unfold newDg at HR14 HV14
      obtain ⟨w15, e3⟩ : ∃ u, w14.alloc (.cells (dgc D2 co14 cn14 cp14) 25) = u := ⟨_, rfl⟩
      obtain ⟨ge, ega⟩ : ∃ u, w14.heap.size = u := ⟨_, rfl⟩
      rw [e3] at HR14 HV14 HT14
      rw [e3, ega]
      rw [ega] at HV14
      clear e3 ega
      have HSm := hid (rsame16_t D2 co14 co8 cn14 cp14 cp8 w15 HR14.out (HR8.out.still HT14.out))
      obtain ⟨m0, m1, m2, m3, m4, m5, m6, m7, _⟩ := (HV8.out.still HT14.out).cells
      obtain ⟨k0, k1, k2, k3, k4, k5, k6, k7, _⟩ := HV14.out.cells
      go_wp2_with fail
      refine HSm.out.mono ?_
      rintro e w16 ⟨he, h16⟩
      rw [he]
      have HF := hid ((HS8.out.trans HT14.out).trans h16)
      have HV16 := hid (HV8.out.still (HT14.out.trans h16))
      clear he h16 HSm HR14 HV14 HT14 m0 m1 m2 m3 m4 m5 m6 m7 k0 k1 k2 k3 k4 k5 k6 k7
      obtain ⟨_, _, _, _, _, _, m6, _, _⟩ := HV16.out.cells
      go_wp2_with fail
      go_ret
      exact ⟨by simp, HF.out⟩
end Go.Proofs.YtaaongbdincimaaGreatDoor
