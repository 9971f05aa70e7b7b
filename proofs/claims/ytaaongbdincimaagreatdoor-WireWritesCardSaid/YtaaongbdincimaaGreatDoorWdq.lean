/- The document's Encode. -/
import Derived.Test.YtaaongbdincimaaGreatDoorWdp
import Derived.Test.YtaaongbdincimaaGreatDoorWdd
namespace Go.Proofs.YtaaongbdincimaaGreatDoor
open Go.RowKit
open Wp Vp
set_option maxRecDepth 100000
set_option linter.unusedVariables false

theorem ropen16_any (d : Dg) (hok : okD d = true) (hs : 0 ≤ d.ss ∧ d.ss < 18446744073709551616) (co : Option Addr) (cn cp : Nat) (w : World) (hO : OTab w) (hr : RdG KCc w co cn d.cs) :
    Calls Tryz.prog 25 #[dgv d co cn cp] w fun e w' => ∃ ao n cap, e = .returned (.slice ao n cap) ∧ Nw w w' ao n cap (opnB d) := by
  obtain ⟨h1, h2, h3⟩ := okD_parts hok
  obtain ⟨kd, ss, fr, tt, mk, fi, cs, ak⟩ := d
  dsimp only at h1 h2 h3 hs hr
  obtain ⟨s, rfl⟩ : ∃ n : Nat, ss = (n : Int) := ⟨ss.toNat, by omega⟩
  obtain ⟨a, rfl⟩ : ∃ n : Nat, ak = (n : Int) := ⟨ak.toNat, by omega⟩
  have u8 : ∀ n : Int, 0 ≤ n ∧ n ≤ 5 → IntKind.u8.wrap n = n := fun n h => by rw [IntKind.wrap_u8]; omega
  rcases h3 with ⟨rfl, hm, hf, hl, ha⟩ | ⟨rfl, rfl, rfl, rfl⟩
  · obtain ⟨m, rfl⟩ : ∃ n : Nat, mk = (n : Int) := ⟨mk.toNat, by omega⟩
    obtain ⟨f, rfl⟩ : ∃ n : Nat, fi = (n : Int) := ⟨fi.toNat, by omega⟩
    exact ropen1_any s (by omega) fr tt (u8 _ ⟨h1.1, h1.2.1⟩) (u8 _ ⟨h1.2.2.1, h1.2.2.2.1⟩) ⟨h1.1, h1.2.1⟩ ⟨h1.2.2.1, h1.2.2.2.1⟩ a (by omega) co cn cp m f cs hm (by omega) (allC_mem ha) (by rw [← hr.1]; exact hl) w hO hr
  · exact ropen2_any s (by omega) fr tt (u8 _ ⟨h1.1, h1.2.1⟩) (u8 _ ⟨h1.2.2.1, h1.2.2.2.1⟩) ⟨h1.1, h1.2.1⟩ ⟨h1.2.2.1, h1.2.2.2.1⟩ a (by omega) co cn cp w
set_option maxHeartbeats 4000000 in
theorem renc16_no (d : Dg) (hok : okD d = false) (co : Option Addr) (cn cp : Nat) (w : World) (hO : OTab w) (hr : RdG KCc w co cn d.cs) :
    Calls Tryz.prog 11 #[dgv d co cn cp] w fun e w' => e = .returned (.tuple #[.slice none 0 0, .int .i64 162]) ∧ Still w w' := by
  have A0 := Still.alloc w (.cells (dgc d co cn cp) 25)
  obtain ⟨c0, c1, c2, c3, c4, c5, c6, c7, cf⟩ := (newDg_b w d co cn cp).cells
  have HC := hid (rchkd_any d co cn cp _ (hO.still A0) (hr.still A0))
  rw [show chkD d = 162 by unfold chkD; rw [hok]; rfl] at HC
  have HA := hid A0
  clear A0 hr cf hok hO
  go_enter Tryz.func11, Tryz.ntmps11
  go_wp2_with fail
  refine HC.out.mono ?_
  rintro e w1 ⟨rfl, h1⟩
  have HS := hid (HA.out.trans h1)
  clear h1
  go_wp2_with fail
  go_ret2
  exact ⟨rfl, HS.out⟩
set_option maxHeartbeats 4000000 in
theorem renc16_yes (d : Dg) (hok : okD d = true) (hs : 0 ≤ d.ss ∧ d.ss < 18446744073709551616) (co : Option Addr) (cn cp : Nat) (w : World) (hO : OTab w) (hr : RdG KCc w co cn d.cs) :
    Calls Tryz.prog 11 #[dgv d co cn cp] w fun e w' => ∃ ao cap, e = .returned (.tuple #[.slice ao (encB d).length cap, .int .i64 0]) ∧ Ow 5 w' ao (encB d).length cap (encB d) ∧ Still w w' := by
  have hle := opnB_le hok
  have A0 := Still.alloc w (.cells (dgc d co cn cp) 25)
  have B0 := newDg_b w d co cn cp
  have hr0 := hr.still A0
  have hO0 := hO.still A0
  obtain ⟨W, eW⟩ : ∃ W, w.alloc (.cells (dgc d co cn cp) 25) = W := ⟨_, rfl⟩
  obtain ⟨g, eg⟩ : ∃ g, w.heap.size = g := ⟨_, rfl⟩
  unfold newDg at B0
  rw [eW] at A0 B0 hr0 hO0
  rw [eg] at B0
  have HC := hid (rchkd_any d co cn cp W hO0 hr0)
  rw [show chkD d = 0 by unfold chkD; rw [hok]; rfl] at HC
  have HCo := hid (fun (u : World) (hu : Still W u) => ropen16_any d hok hs co cn cp u (hO0.still hu) (hr0.still hu))
  have HA := hid A0
  have HB := hid B0
  have HLn : Hid ((opnB d).length + 8 = (encB d).length ∧ opnB d ++ sumZ (opnB d) = encB d) := hid ⟨(encB_len d).symm, rfl⟩
  obtain ⟨X, eX⟩ : ∃ X, opnB d = X := ⟨_, rfl⟩
  rw [eX] at hle HCo HLn
  obtain ⟨c0, c1, c2, c3, c4, c5, c6, c7, cf⟩ := B0.cells
  clear A0 B0 hr hr0 hO hO0 cf eX hok
  go_enter Tryz.func11, Tryz.ntmps11
  go_wp2_with fail
  refine HC.out.mono ?_
  rintro e w1 ⟨he, h1⟩
  rw [he]
  have HS1 := hid h1
  have HB1 := hid (HB.out.still h1)
  clear he h1 HC c0 c1 c2 c3 c4 c5 c6 c7
  obtain ⟨c0, c1, c2, c3, c4, c5, c6, c7, _⟩ := HB1.out.cells
  have HC := hid (HCo.out w1 HS1.out)
  go_wp2_with fail
  refine HC.out.mono ?_
  rintro e w2 ⟨ao, n, cap, he, hn⟩
  rw [he]
  have hl := hn.len
  have HC2 := hid (rseal_any ao n cap X w2 hn.o.rd (by omega))
  have HS2 := hid (HS1.out.trans hn.s)
  have HL := hid hl
  clear he hn hl HC c0 c1 c2 c3 c4 c5 c6 c7
  go_wp2_with fail
  refine HC2.out.mono ?_
  rintro e w3 ⟨ao3, cap3, he, ho3, h3, _⟩
  rw [he]
  have hF : Ow 5 w3 ao3 (encB d).length cap3 (encB d) := by
    rw [← HLn.out.1, ← HLn.out.2, HL.out]
    exact ho3
  have hE : n + 8 = (encB d).length := by rw [← HLn.out.1, HL.out]
  have HF := hid (And.intro hF ((HA.out.trans HS2.out).trans h3))
  rw [hE]
  clear he ho3 h3 hF hE HC2 HL HLn
  go_wp2_with fail
  go_ret2
  exact ⟨ao3, cap3, rfl, HF.out⟩
end Go.Proofs.YtaaongbdincimaaGreatDoor
