/- What the program writes is what the document asks. -/
import Derived.Test.YtaaongbdincimaaGreatDoorWlb
import Derived.Test.YtaaongbdincimaaGreatDoorWld
import Derived.Test.YtaaongbdincimaaGreatDoorWdq
namespace Go.Proofs.YtaaongbdincimaaGreatDoor
open Go.RowKit
open Wp Vp
set_option maxRecDepth 100000
set_option linter.unusedVariables false
set_option linter.unusedSimpArgs false

/-- what Encode tells of any datagram -/
def outB (d : Dg) : List UInt8 := if okD d = true then encB d else []
def EncO (w w' : World) (d : Dg) (e : Ending) : Prop := ∃ ao n cap, e = .returned (.tuple #[.slice ao n cap, .int .i64 (chkD d)]) ∧ Ow 5 w' ao n cap (outB d) ∧ Still w w'
theorem wencO (d : Dg) (hs : 0 ≤ d.ss ∧ d.ss < 18446744073709551616) (co : Option Addr) (cn cp : Nat) (w : World) (ht : FTab w) (hr : RdG KCc w co cn d.cs) :
    Calls Tryz.prog 9 #[dgv d co cn cp] w fun e w' => EncO w w' d e := by
  cases hok : okD d with
  | false =>
    refine (wenc16_no d hok co cn cp w hr).mono ?_
    rintro e w1 ⟨rfl, h1⟩
    refine ⟨none, 0, 0, by rw [show chkD d = 162 by unfold chkD; rw [hok]; rfl], ?_, h1⟩
    rw [show outB d = [] by unfold outB; rw [hok]; rfl]
    exact Ow.empty _ _
  | true =>
    refine (wenc16_yes d hok hs co cn cp w ht hr).mono ?_
    rintro e w1 ⟨ao, cap, rfl, ho, h1, _⟩
    refine ⟨ao, _, cap, by rw [show chkD d = 0 by unfold chkD; rw [hok]; rfl], ?_, h1⟩
    rw [show outB d = encB d by unfold outB; rw [hok]; rfl]
    exact ho
theorem rencO (d : Dg) (hs : 0 ≤ d.ss ∧ d.ss < 18446744073709551616) (co : Option Addr) (cn cp : Nat) (w : World) (hO : OTab w) (hr : RdG KCc w co cn d.cs) :
    Calls Tryz.prog 11 #[dgv d co cn cp] w fun e w' => EncO w w' d e := by
  cases hok : okD d with
  | false =>
    refine (renc16_no d hok co cn cp w hO hr).mono ?_
    rintro e w1 ⟨rfl, h1⟩
    refine ⟨none, 0, 0, by rw [show chkD d = 162 by unfold chkD; rw [hok]; rfl], ?_, h1⟩
    rw [show outB d = [] by unfold outB; rw [hok]; rfl]
    exact Ow.empty _ _
  | true =>
    refine (renc16_yes d hok hs co cn cp w hO hr).mono ?_
    rintro e w1 ⟨ao, cap, rfl, ho, h1⟩
    refine ⟨ao, _, cap, by rw [show chkD d = 0 by unfold chkD; rw [hok]; rfl], ?_, h1⟩
    rw [show outB d = encB d by unfold outB; rw [hok]; rfl]
    exact ho
set_option maxHeartbeats 8000000 in
theorem writes16_law (d : Dg) (hs : 0 ≤ d.ss ∧ d.ss < 18446744073709551616) (co : Option Addr) (cn cp : Nat) (hn0 : cn ≤ cp) (hc0 : co = none → cp = 0) (g0 : 56 * cn ≤ 140737488351232) (d' : Dg) (hs' : 0 ≤ d'.ss ∧ d'.ss < 18446744073709551616) (co' : Option Addr) (cn' cp' : Nat) (B : Nat) (a0 a1 a2 : Addr) (w : World) (ht : FTab w) (hE : ETab w B a0 a1 a2) (hO : OTab w) (hr : RdG KCc w co cn d.cs) (hr' : RdG KCc w co' cn' d'.cs) :
    Calls Tryz.prog 3 #[dgv d co cn cp, dgv d' co' cn' cp'] w fun e w' => e = .returned (.bool true) ∧ Still w w' := by
  have A0 := Still.alloc w (.cells (dgc d co cn cp) 25)
  have A1 := Still.alloc (newDg w d co cn cp) (.cells (dgc d' co' cn' cp') 25)
  have b0 := (newDg_b w d co cn cp).still A1
  have b1 := newDg_b (newDg w d co cn cp) d' co' cn' cp'
  have A := A0.trans A1
  have hsz1 : (newDg w d co cn cp).heap.size = w.heap.size + 1 := size_alloc _ _
  rw [hsz1] at b1
  unfold newDg at A b0 b1
  obtain ⟨W, eW⟩ : ∃ W, (w.alloc (.cells (dgc d co cn cp) 25)).alloc (.cells (dgc d' co' cn' cp') 25) = W := ⟨_, rfl⟩
  obtain ⟨p, ep⟩ : ∃ p, w.heap.size = p := ⟨_, rfl⟩
  rw [ep] at b0 b1
  rw [eW] at A b0 b1
  have HB0 := hid (fun (u : World) (hu : Still W u) => (b0.still hu).cells)
  have HB1 := hid (fun (u : World) (hu : Still W u) => (b1.still hu).cells)
  have HAw := hid (awake16_any B a0 a1 a2 W (ht.still A) (hE.still A))
  have HLt := hid (fun (u : World) (hu : Still W u) => lent16_any d co cn cp u (hr.still (A.trans hu)) g0)
  have HRc := hid (fun (u : World) (hu : Still W u) => rchkd_any d co cn cp u (hO.still (A.trans hu)) (hr.still (A.trans hu)))
  have HE1 := hid (fun (u : World) (hu : Still W u) => wencO d' hs' co' cn' cp' u (ht.still (A.trans hu)) (hr'.still (A.trans hu)))
  have HR0 := hid (fun (u : World) (hu : Still W u) => rencO d hs co cn cp u (hO.still (A.trans hu)) (hr.still (A.trans hu)))
  have HR1 := hid (fun (u : World) (hu : Still W u) => rencO d' hs' co' cn' cp' u (hO.still (A.trans hu)) (hr'.still (A.trans hu)))
  have HCx := hid (fun (u : World) (g : Nat) (h : RdG KCc u (some ⟨g, 0, none⟩) cn d.cs) => wchk16_any d (some ⟨g, 0, none⟩) cn (cn + 1) u h)
  have HEx := hid (fun (u : World) (hu : Still W u) (g : Nat) (h : RdG KCc u (some ⟨g, 0, none⟩) cn d.cs) => wencO d hs (some ⟨g, 0, none⟩) cn (cn + 1) u (ht.still (A.trans hu)) h)
  have HWh := hid (fun (u : World) (hu : Still W u) (g B : Nat) (h : OwG KCc 42 u B (.slice (some ⟨g, 0, none⟩) (cn + 1) (cn + 1)) (d.cs ++ [c77])) => whole16_any g co cn cp d.cs B u (hr.still (A.trans hu)) h g0)
  have HLn := hid hr.1
  have HA := hid A
  have hle : Hid (d.cs.length ≤ 281474976710656) := hid (by have := hr.1; omega)
  obtain ⟨m0, m1, m2, m3, m4, m5, m6, m7, _⟩ := HB0.out W (Fr.refl _ _)
  clear A A0 A1 b0 b1 hsz1 ht hE hO hr hr' hs hs' hc0
  go_enter Tryz.func3, Tryz.ntmps3
  go_wp2_with fail
  refine HAw.out.mono ?_
  rintro e w1 ⟨he, h1⟩
  rw [he]
  have HS1 := hid h1
  clear he h1 HAw m0 m1 m2 m3 m4 m5 m6 m7
  obtain ⟨m0, m1, m2, m3, m4, m5, m6, m7, _⟩ := HB0.out _ HS1.out
  have HC := hid (HLt.out _ HS1.out)
  go_wp2_with fail
  refine HC.out.mono ?_
  rintro e w2 ⟨g, he, ho2, h2⟩
  rw [he]
  have A2 := Still.alloc w2 (.cells (dgc d (some ⟨g, 0, none⟩) cn (cn + 1)) 25)
  have bx := newDg_b w2 d (some ⟨g, 0, none⟩) cn (cn + 1)
  have hS2 := (HS1.out.trans h2).trans A2
  have o2 := ho2.still A2
  have r2 : RdG KCc (w2.alloc (.cells (dgc d (some ⟨g, 0, none⟩) cn (cn + 1)) 25)) (some ⟨g, 0, none⟩) cn d.cs := by
    have := o2.rd (L := d.cs) hle.out
    rw [HLn.out] at this
    exact this
  unfold newDg at bx
  obtain ⟨q, eq⟩ : ∃ q, w2.heap.size = q := ⟨_, rfl⟩
  obtain ⟨W2, eW2⟩ : ∃ W, w2.alloc (.cells (dgc d (some ⟨g, 0, none⟩) cn (cn + 1)) 25) = W := ⟨_, rfl⟩
  rw [eq] at bx
  rw [eW2] at bx hS2 o2 r2
  have HS2 := hid hS2
  have HO2 := hid o2
  have HRx := hid (fun (u : World) (hu : Still W2 u) => r2.still hu)
  have HBx := hid (fun (u : World) (hu : Still W2 u) => (bx.still hu).cells)
  have HC := hid (HCx.out W2 g r2)
  clear he ho2 h2 A2 bx hS2 o2 r2 HS1 HLt m0 m1 m2 m3 m4 m5 m6 m7 HCx
  obtain ⟨m0, m1, m2, m3, m4, m5, m6, m7, _⟩ := HBx.out _ (Fr.refl _ _)
  go_wp2_with fail
  refine HC.out.mono ?_
  rintro e w3 ⟨he, h3⟩
  rw [he]
  have HT3 := hid h3
  clear he h3 HC m0 m1 m2 m3 m4 m5 m6 m7
  obtain ⟨m0, m1, m2, m3, m4, m5, m6, m7, _⟩ := HB0.out _ (HS2.out.trans HT3.out)
  have HC := hid (HRc.out _ (HS2.out.trans HT3.out))
  go_wp2_with fail
  refine HC.out.mono ?_
  rintro e w4 ⟨he, h4⟩
  rw [he]
  have HT4 := hid (HT3.out.trans h4)
  clear he h4 HC HT3 m0 m1 m2 m3 m4 m5 m6 m7
  obtain ⟨m0, m1, m2, m3, m4, m5, m6, m7, _⟩ := HBx.out _ HT4.out
  have HC := hid (HEx.out _ (HS2.out.trans HT4.out) g (HRx.out _ HT4.out))
  go_wp2_with fail
  refine HC.out.mono ?_
  rintro e w5 ⟨ao5, n5, cap5, he, ho5, h5⟩
  rw [he]
  have HT5 := hid (HT4.out.trans h5)
  have HK5 := hid ho5
  clear he h5 ho5 HC HT4 m0 m1 m2 m3 m4 m5 m6 m7
  obtain ⟨m0, m1, m2, m3, m4, m5, m6, m7, _⟩ := HB0.out _ (HS2.out.trans HT5.out)
  have HC := hid (HWh.out _ (HS2.out.trans HT5.out) g _ (HO2.out.still HT5.out))
  go_wp2_with fail
  refine HC.out.mono ?_
  rintro e w6 ⟨he, h6⟩
  rw [he]
  have HT6 := hid (HT5.out.trans h6)
  have HK6 := hid (HK5.out.still16 h6)
  clear he h6 HC HT5 HK5 m0 m1 m2 m3 m4 m5 m6 m7
  obtain ⟨m0, m1, m2, m3, m4, m5, m6, m7, _⟩ := HB1.out _ (HS2.out.trans HT6.out)
  have HC := hid (HE1.out _ (HS2.out.trans HT6.out))
  go_wp2_with fail
  refine HC.out.mono ?_
  rintro e w7 ⟨ao7, n7, cap7, he, ho7, h7⟩
  rw [he]
  have HT7 := hid (HT6.out.trans h7)
  have HK7 := hid (HK6.out.still16 h7)
  have HL7 := hid ho7
  clear he h7 ho7 HC HT6 HK6 m0 m1 m2 m3 m4 m5 m6 m7
  obtain ⟨m0, m1, m2, m3, m4, m5, m6, m7, _⟩ := HBx.out _ HT7.out
  have HC := hid (HEx.out _ (HS2.out.trans HT7.out) g (HRx.out _ HT7.out))
  go_wp2_with fail
  refine HC.out.mono ?_
  rintro e w8 ⟨ao8, n8, cap8, he, ho8, h8⟩
  rw [he]
  have HT8 := hid (HT7.out.trans h8)
  have HK8 := hid (HK7.out.still16 h8)
  have HL8 := hid (HL7.out.still16 h8)
  have HM8 := hid ho8
  clear he h8 ho8 HC HT7 HK7 HL7 m0 m1 m2 m3 m4 m5 m6 m7
  obtain ⟨m0, m1, m2, m3, m4, m5, m6, m7, _⟩ := HB0.out _ (HS2.out.trans HT8.out)
  have HC := hid (HR0.out _ (HS2.out.trans HT8.out))
  go_wp2_with fail
  refine HC.out.mono ?_
  rintro e w9 ⟨ao9, n9, cap9, he, ho9, h9⟩
  rw [he]
  have HT9 := hid (HT8.out.trans h9)
  have HK9 := hid (HK8.out.still16 h9)
  have HL9 := hid (HL8.out.still16 h9)
  have HM9 := hid (HM8.out.still16 h9)
  have HN9 := hid ho9
  clear he h9 ho9 HC HT8 HK8 HL8 HM8 m0 m1 m2 m3 m4 m5 m6 m7
  obtain ⟨m0, m1, m2, m3, m4, m5, m6, m7, _⟩ := HB1.out _ (HS2.out.trans HT9.out)
  have HC := hid (HR1.out _ (HS2.out.trans HT9.out))
  go_wp2_with fail
  refine HC.out.mono ?_
  rintro e wx ⟨aox, nx, capx, he, hox, hx⟩
  rw [he]
  have HF := hid ((HA.out.trans (HS2.out.trans HT9.out)).trans hx)
  have s1 := run_string (P := Tryz.prog) wx 31 5 9 Tryz.underlying31 Tryz.underlying5 Tryz.underlying9 (HK9.out.still16 hx).rd
  have s2 := run_string (P := Tryz.prog) wx 31 5 9 Tryz.underlying31 Tryz.underlying5 Tryz.underlying9 (HL9.out.still16 hx).rd
  have s3 := run_string (P := Tryz.prog) wx 31 5 9 Tryz.underlying31 Tryz.underlying5 Tryz.underlying9 (HM9.out.still16 hx).rd
  have s4 := run_string (P := Tryz.prog) wx 31 5 9 Tryz.underlying31 Tryz.underlying5 Tryz.underlying9 (HN9.out.still16 hx).rd
  have s5 := run_string (P := Tryz.prog) wx 31 5 9 Tryz.underlying31 Tryz.underlying5 Tryz.underlying9 hox.rd
  obtain ⟨S, eS⟩ : ∃ S, (⟨(outB d).toArray⟩ : ByteArray) = S := ⟨_, rfl⟩
  obtain ⟨T, eT⟩ : ∃ T, (⟨(outB d').toArray⟩ : ByteArray) = T := ⟨_, rfl⟩
  rw [eS] at s1 s3 s4
  rw [eT] at s2 s5
  obtain ⟨x, ex⟩ : ∃ x, chkD d = x := ⟨_, rfl⟩
  obtain ⟨y, ey⟩ : ∃ y, chkD d' = y := ⟨_, rfl⟩
  rw [ex, ey]
  clear he hx hox HC HT9 HK9 HL9 HM9 HN9 m0 m1 m2 m3 m4 m5 m6 m7 eS eT ex ey
  go_wp2_with fail
  go_ret
  exact ⟨by simp, HF.out⟩
end Go.Proofs.YtaaongbdincimaaGreatDoor
