/- The program's Encode of a datagram. -/
import Derived.Test.YtaaongbdincimaaGreatDoorWwd
namespace Go.Proofs.YtaaongbdincimaaGreatDoor
open Go.RowKit
open Wp Vp
set_option maxRecDepth 100000
set_option linter.unusedVariables false

theorem ofI_inZ (bs : List UInt8) : ∃ m : Nat, m < 18446744073709551616 ∧ ofI bs = (m : Int) := by
  have h := mix_in (IntKind.u64.wrap (foldI 14695981039346656037 bs + IntKind.u64.wrap (bs.length : Int)))
  exact ⟨(ofI bs).toNat, by unfold ofI; omega, by unfold ofI; omega⟩
/-- the eight bytes of the sum of bytes -/
def sumZ (bs : List UInt8) : List UInt8 := Wp.sumF 8 (ofI bs).toNat
theorem sumZ_len (bs : List UInt8) : (sumZ bs).length = 8 := Wp.sumF_len 8 _
/-- a datagram's bytes -/
def encB (d : Dg) : List UInt8 := opnB d ++ sumZ (opnB d)
theorem opnB_le {d : Dg} (h : okD d = true) : (opnB d).length ≤ 11000 := by
  obtain ⟨h1, h2, h3⟩ := okD_parts h
  have z := Cp.form_ten (n := d.ak.toNat) (by omega)
  unfold opnB hdB tnB
  rcases h3 with ⟨hk, hm, hf, hl, ha⟩ | ⟨hk, hm, hf, ha⟩
  · rw [if_pos hk]
    have z1 := Cp.form_ten (n := d.mrk.toNat) (by omega)
    have z2 := Cp.form_ten (n := d.fi.toNat) (by omega)
    have z3 := Cp.form_ten (n := d.cs.length) (by omega)
    have z4 := csB_le hm d.cs (allC_mem ha)
    simp only [List.length_append, List.length_cons, List.length_nil, Wp.sumF_len]
    omega
  · rw [if_neg (by omega)]
    simp only [List.length_append, List.length_cons, List.length_nil, Wp.sumF_len]
    omega
theorem encB_len (d : Dg) : (encB d).length = (opnB d).length + 8 := by
  unfold encB
  rw [List.length_append, sumZ_len]
theorem zdg_any (p : Nat) (d : Dg) (hok : okD d = true) (hs : 0 ≤ d.ss ∧ d.ss < 18446744073709551616) (co : Option Addr) (cn cp : Nat) (w : World) (hw : Wz w p none []) (hr : RdG KCc w co cn d.cs) (hne : ∀ a, co = some a → 0 < cn → a.block ≠ p) :
    Calls Tryz.prog 21 #[wzv p, dgv d co cn cp] w fun r w' => r = .returned (.tuple #[]) ∧ ∃ ao', Lz w w' p none ao' [] (opnB d) := by
  obtain ⟨h1, h2, h3⟩ := okD_parts hok
  obtain ⟨kd, ss, fr, tt, mk, fi, cs, ak⟩ := d
  dsimp only at h1 h2 h3 hs hr
  obtain ⟨s, rfl⟩ : ∃ n : Nat, ss = (n : Int) := ⟨ss.toNat, by omega⟩
  obtain ⟨a, rfl⟩ : ∃ n : Nat, ak = (n : Int) := ⟨ak.toNat, by omega⟩
  have u8 : ∀ n : Int, 0 ≤ n ∧ n ≤ 5 → IntKind.u8.wrap n = n := fun n h => by rw [IntKind.wrap_u8]; omega
  have u64 : ∀ n : Nat, n ≤ 1099511627776 → IntKind.u64.wrap (n : Int) = (n : Int) := fun n h => by rw [IntKind.wrap_u64]; omega
  rcases h3 with ⟨rfl, hm, hf, hl, ha⟩ | ⟨rfl, rfl, rfl, rfl⟩
  · obtain ⟨m, rfl⟩ : ∃ n : Nat, mk = (n : Int) := ⟨mk.toNat, by omega⟩
    obtain ⟨f, rfl⟩ : ∃ n : Nat, fi = (n : Int) := ⟨fi.toNat, by omega⟩
    exact zdg1_any p s (by omega) fr tt ⟨h1.1, h1.2.1⟩ ⟨h1.2.2.1, h1.2.2.2.1⟩ a (by omega) co cn cp (u8 _ ⟨h1.1, h1.2.1⟩) (u8 _ ⟨h1.2.2.1, h1.2.2.2.1⟩) (u64 _ (by omega)) m f cs hm (by omega) (allC_mem ha) (by rw [← hr.1]; exact hl) hr.1 (u64 _ (by omega)) (u64 _ (by omega)) w hw hr (fun b hb h0 e => by
      rcases e with e | ⟨_, e, _⟩
      · exact hne b hb h0 e
      · cases e)
  · exact zdg2_any p s (by omega) fr tt ⟨h1.1, h1.2.1⟩ ⟨h1.2.2.1, h1.2.2.2.1⟩ a (by omega) co cn cp (u8 _ ⟨h1.1, h1.2.1⟩) (u8 _ ⟨h1.2.2.1, h1.2.2.2.1⟩) (u64 _ (by omega)) w hw
set_option maxHeartbeats 4000000 in
theorem wenc16_no (d : Dg) (hok : okD d = false) (co : Option Addr) (cn cp : Nat) (w : World) (hr : RdG KCc w co cn d.cs) :
    Calls Tryz.prog 9 #[dgv d co cn cp] w fun e w' => e = .returned (.tuple #[.slice none 0 0, .int .i64 162]) ∧ Still w w' := by
  have A0 := Still.alloc w (.cells (dgc d co cn cp) 25)
  obtain ⟨c0, c1, c2, c3, c4, c5, c6, c7, cf⟩ := (newDg_b w d co cn cp).cells
  have HC := hid (wchk16_any d co cn cp _ (hr.still A0))
  rw [show chkD d = 162 by unfold chkD; rw [hok]; rfl] at HC
  have HA := hid A0
  clear A0 hr cf hok
  go_enter Tryz.func9, Tryz.ntmps9
  go_wp2_with fail
  refine HC.out.mono ?_
  rintro e w1 ⟨rfl, h1⟩
  have HS := hid (HA.out.trans h1)
  clear h1
  go_wp2_with fail
  go_ret2
  exact ⟨rfl, HS.out⟩
set_option maxHeartbeats 4000000 in
theorem wenc16_yes (d : Dg) (hok : okD d = true) (hs : 0 ≤ d.ss ∧ d.ss < 18446744073709551616) (co : Option Addr) (cn cp : Nat) (w : World) (ht : FTab w) (hr : RdG KCc w co cn d.cs) :
    Calls Tryz.prog 9 #[dgv d co cn cp] w fun e w' => ∃ ao cap, e = .returned (.tuple #[.slice ao (encB d).length cap, .int .i64 0]) ∧ Ow 5 w' ao (encB d).length cap (encB d) ∧ Still w w' ∧ ∀ a, ao = some a → w.heap.size ≤ a.block := by
  have hle := opnB_le hok
  have A0 := Still.alloc w (.cells (dgc d co cn cp) 25)
  have B0 := newDg_b w d co cn cp
  have hr0 := hr.still A0
  have hlt0 : ∀ a, co = some a → 0 < cn → a.block < w.heap.size := fun a ha h0 => hr.ltZ h0 a ha
  have ht0 := ht.still A0
  obtain ⟨W, eW⟩ : ∃ W, w.alloc (.cells (dgc d co cn cp) 25) = W := ⟨_, rfl⟩
  obtain ⟨g, eg⟩ : ∃ g, w.heap.size = g := ⟨_, rfl⟩
  unfold newDg at B0
  rw [eW] at A0 B0 hr0 ht0
  rw [eg] at B0 hlt0
  have HC := hid (wchk16_any d co cn cp W hr0)
  rw [show chkD d = 0 by unfold chkD; rw [hok]; rfl] at HC
  have HA := hid A0
  have HB := hid B0
  have HR := hid hr0
  have HT := hid ht0
  have HLt := hid hlt0
  have HG := hid (show g < W.heap.size from block_lt B0)
  obtain ⟨c0, c1, c2, c3, c4, c5, c6, c7, cf⟩ := B0.cells
  clear A0 B0 hr hr0 ht ht0 hlt0 cf
  go_enter Tryz.func9, Tryz.ntmps9
  go_wp2_with fail
  refine HC.out.mono ?_
  rintro e w1 ⟨he, h1⟩
  rw [he]
  have HS1 := hid h1
  clear he h1 HC c0 c1 c2 c3 c4 c5 c6 c7
  have HC := hid (newWriter_any 16384 (by omega) (by omega) w1)
  go_wp2_with fail
  refine HC.out.mono ?_
  rintro e w2 ⟨he, hw2, h2⟩
  rw [he]
  obtain ⟨p, ep⟩ : ∃ p, w1.heap.size = p := ⟨_, rfl⟩
  rw [ep] at hw2
  rw [show max (16384 : Int) 0 = 16384 from rfl] at hw2
  have hq2 : Wz w2 p none [] := Wz.of hw2
  have A2 := Still.alloc w2 (.cells #[.pointer (some ⟨p, 0, none⟩)] 50)
  have B2 := Ofz.new hq2 #[.pointer (some ⟨p, 0, none⟩)] 50
  have hS2 := (HS1.out.trans h2).trans A2
  have hD2 := HB.out.still hS2
  have hpg : W.heap.size ≤ p := by rw [← ep]; exact HS1.out.size
  have HCd := hid (zdg_any p d hok hs co cn cp _ (hq2.still A2) (HR.out.still hS2) (fun a ha h0 e => by have := HLt.out a ha h0; have := HG.out; omega))
  have HT2 := hid (HT.out.still hS2)
  have HDn : Hid (¬ Wf p none g) := hid (fun e => by
    rcases e with e | ⟨_, e, _⟩
    · have := HG.out; omega
    · cases e)
  have HFn : Hid (¬ Wf p none 6) := hid (fun e => by
    rcases e with e | ⟨_, e, _⟩
    · have := HT.out.size; omega
    · cases e)
  obtain ⟨W2, eW2⟩ : ∃ W, w2.alloc (.cells #[.pointer (some ⟨p, 0, none⟩)] 50) = W := ⟨_, rfl⟩
  obtain ⟨g2, eg2⟩ : ∃ g, w2.heap.size = g := ⟨_, rfl⟩
  rw [eW2] at A2 B2 hS2 hD2 HCd HT2
  rw [eg2] at B2
  have HB2 := hid B2
  have HS2 := hid hS2
  have HP := hid hpg
  have c := B2.wr
  obtain ⟨c0, c1, c2, c3, c4, c5, c6, c7, cf⟩ := hD2.cells
  rw [ep]
  clear he hw2 h2 hq2 A2 B2 hS2 hD2 hpg HC ep cf
  go_wp2_with fail
  refine HCd.out.mono ?_
  rintro e w3 ⟨he, ao3, h3⟩
  rw [he]
  have hq3 := h3.q
  rw [List.nil_append] at hq3
  have b3 := HB2.out.on h3
  have HB3 := hid b3
  have HL3 := hid h3
  have HT3 : Hid (FTab w3) := hid (HT2.out.on h3.f HFn.out)
  have HF3 : Hid (Fr (fun k => k = p) W2 w3) := hid (h3.f.mono (fun k hk e => by
    rcases e with e | ⟨_, e, _⟩
    · exact e
    · cases e))
  obtain ⟨cap3, hw3⟩ := hq3.wr
  have HC := hid (wdone_any p ao3 _ cap3 16384 (opnB d) 0 w3 hw3 (by omega))
  have HQ3 := hid hq3
  have c' := b3.wr
  clear he h3 hq3 b3 hw3 c c0 c1 c2 c3 c4 c5 c6 c7 HCd HB2 HT2
  have c := c'
  clear c'
  go_wp2_with fail
  refine HC.out.mono ?_
  rintro e w4 ⟨ao4, cap4, he, ho4, h4, ha4⟩
  rw [he]
  obtain ⟨X, eX⟩ : ∃ X, opnB d = X := ⟨_, rfl⟩
  rw [eX] at ho4 HQ3 hle ⊢
  obtain ⟨m, hm, em⟩ := ofI_inZ X
  have hD : FTab w4.drew := (HT3.out.still h4).still ((Fr.refl _ w4).drew)
  have HO4 := hid (dof_any ao4 _ cap4 X w4.drew (ho4.rd.still ((Fr.refl _ w4).drew)) hD)
  have b4 := HB3.out.still h4
  have HB4 := hid (b4.still ((Fr.refl _ w4).drew))
  have HQ4 := hid ((HQ3.out.still h4).still ((Fr.refl _ w4).drew))
  have HS4 := hid (h4.trans ((Fr.refl _ w4).drew))
  have HE : Hid (encB d = X ++ Wp.sumF 8 m) := hid (by unfold encB sumZ; rw [eX, em]; rfl)
  rw [em] at HO4
  have HM := hid hm
  have k0 : w4.drew.cell? ⟨g2, 0, none⟩ = some (.pointer (some ⟨p, 0, none⟩)) := HB4.out.wr
  have HK := hid k0
  clear he ho4 h4 ha4 b4 HC HQ3 HB3 HT3 hD eX em hm c
  go_wp2_with fail
  refine region_I (fun u => u.cell? ⟨g2, 0, none⟩ = some (.pointer (some ⟨p, 0, none⟩))) (by kernel_rfl) ?_
  refine wpAnyI_take (i := 0) (v := ?tv0) rfl rfl (by kernel_rfl) (by kernel_rfl) (by kernel_rfl) (fun _ _ _ h => h) (fun u hu => ?ty0) ?tk0
  case ty0 => (go_simp; try rfl)
  refine wpAnyI_take (i := 1) (v := ?tv1) rfl rfl (by kernel_rfl) (by kernel_rfl) (by kernel_rfl) (fun _ _ _ h => h) (fun u hu => ?ty1) ?tk1
  case ty1 => (go_simp; try rfl)
  refine wpAnyI_ready HK.out (rs := [2]) (by kernel_rfl) (by simp) ?_
  refine AllI.cons rfl rfl (fun K hK => ?_) AllI.nil
  go_simp
  refine HO4.out.mono ?_
  rintro e w5 ⟨he, h5⟩
  rw [he]
  have HB5 := hid (HB4.out.still h5)
  have HQ5 := hid (HQ4.out.still h5)
  have HS5 := hid (HS4.out.trans h5)
  have HI := hid (HB4.out.still h5).wr
  have HC := hid (zfull_any p ao3 X m HM.out (by omega) w5 (HQ4.out.still h5))
  clear he h5 HO4 HB4 HQ4 HS4 HK k0
  refine hK _ _ ?_
  clear hK K
  refine wpAnyI_ready HI.out (rs := [3]) (by kernel_rfl) (by simp) ?_
  refine AllI.cons rfl rfl (fun K hK => ?_) AllI.nil
  go_simp
  refine HC.out.mono ?_
  rintro e w6 ⟨he, ao6, h6⟩
  rw [he]
  have b6 := HB5.out.on h6
  have HI6 := hid b6.wr
  have hq6 := h6.q
  obtain ⟨cap6, hw6⟩ := hq6.wr
  have hl6 : (X ++ Wp.sumF 8 m).length ≤ 12000 := by rw [List.length_append, Wp.sumF_len]; omega
  have HC2 := hid (wdone_any p ao6 _ cap6 16384 (X ++ Wp.sumF 8 m) 0 w6 hw6 (by omega))
  have HS6 : Hid (Still w w6) := hid (by
    have e1 : Fr (fun k => k = p) W2 w6 := by
      refine (HF3.out.trans HS5.out (fun _ _ e => e.elim)).trans h6.f (fun k hk e => ?_)
      rcases e with e | ⟨b, hb, e⟩
      · exact e
      · rcases HL3.out.l b hb with ⟨_, h, _⟩ | h
        · cases h
        · omega
    have e2 : Still w W2 := HA.out.trans HS2.out
    exact Fr.trans e2 e1 (fun k hk e => by
      have := HP.out
      have := HA.out.size
      omega))
  have c := b6.wr
  clear he h6 b6 hq6 hw6 HC HB5 HQ5 HS5 HI
  refine hK _ _ ?_
  clear hK K
  refine wpAnyI_done HI6.out (by kernel_rfl) ?_ _
  go_wp2_with fail
  refine HC2.out.mono ?_
  rintro e w7 ⟨ao7, cap7, he, ho7, h7, ha7⟩
  rw [he]
  have HF : Hid (Ow 5 w7 ao7 (encB d).length cap7 (encB d) ∧ Still w w7 ∧ ∀ a, ao7 = some a → w.heap.size ≤ a.block) := hid (by
    rw [HE.out]
    exact ⟨ho7, HS6.out.trans h7, fun a ha => Nat.le_trans HS6.out.size (ha7 a ha)⟩)
  have HLn : Hid ((X ++ Wp.sumF 8 m).length = (encB d).length) := hid (by rw [HE.out])
  clear he ho7 h7 ha7 HC2 c
  rw [HLn.out]
  go_wp2_with fail
  go_ret2
  exact ⟨ao7, cap7, rfl, HF.out⟩
end Go.Proofs.YtaaongbdincimaaGreatDoor
