/- The program's Decode. -/
import Derived.Test.YtaaongbdincimaaGreatDoorWrg
namespace Go.Proofs.YtaaongbdincimaaGreatDoor
open Go.RowKit
open Wp Vp
set_option maxRecDepth 100000
set_option linter.unusedVariables false
set_option linter.unusedSimpArgs false

/-- what Decode leaves -/
def DecR (w w' : World) (x : Dg × Int) (e : Ending) : Prop := ∃ co cn cp, e = .returned (.tuple #[dgv x.1 co cn cp, .int .i64 x.2]) ∧ OwG KCc 42 w' w.heap.size (.slice co cn cp) x.1.cs ∧ Still w w'
set_option maxHeartbeats 4000000 in
theorem wdec_any (B : Nat) (a0 a1 a2 : Addr) (ao : Option Addr) (n cap : Nat) (b : List UInt8) (w : World) (ht : FTab w) (hr : Rd w ao n cap b) (hE : ETab w B a0 a1 a2) :
    Calls Tryz.prog 12 #[.slice ao n cap] w fun e w' => DecR w w' (dec16 b) e := by
  have A0 := Still.alloc w (.cells #[.int .i64 0, .int .u64 0, .int .i64 0, .int .i64 0, .int .i64 0, .int .i64 0, .slice none 0 0, .int .i64 0] 25)
  have B0 : Dgb (w.alloc (.cells #[.int .i64 0, .int .u64 0, .int .i64 0, .int .i64 0, .int .i64 0, .int .i64 0, .slice none 0 0, .int .i64 0] 25)) w.heap.size zD none 0 0 := newDg_b w zD none 0 0
  obtain ⟨W, eW⟩ : ∃ W, w.alloc (.cells #[.int .i64 0, .int .u64 0, .int .i64 0, .int .i64 0, .int .i64 0, .int .i64 0, .slice none 0 0, .int .i64 0] 25) = W := ⟨_, rfl⟩
  obtain ⟨g2, eg2⟩ : ∃ g, w.heap.size = g := ⟨_, rfl⟩
  have hWs : W.heap.size = g2 + 1 := by rw [← eW, size_alloc, eg2]
  rw [eW] at A0 B0
  rw [eg2] at B0
  have HC := hid (parse_any B a0 a1 a2 ao n cap b W (ht.still A0) (hr.still A0) (hE.still A0))
  have HT : Hid (∀ u, Still w u → Calls Tryz.prog 27 #[wyV a0 a1 a2 (dec16 b).2] u fun e w' => e = .returned (.int .i64 (dec16 b).2) ∧ w' = u) := hid (fun u hu => told_any B a0 a1 a2 b u (hE.still hu))
  have HA := hid A0
  have HD := hid B0
  have HG := hid eg2
  have HWs := hid hWs
  obtain ⟨d, r, edr⟩ : ∃ d r, dec16 b = (d, r) := ⟨_, _, rfl⟩
  rw [edr] at HC HT ⊢
  dsimp only at HT
  obtain ⟨wy, ewy⟩ : ∃ x, wyV a0 a1 a2 r = x := ⟨_, rfl⟩
  rw [ewy] at HT
  have HC2 : Hid (Calls Tryz.prog 26 #[.slice ao n cap] W fun e w' => ∃ co cn cp, e = .returned (.tuple #[dgv d co cn cp, wy]) ∧ OwG KCc 42 w' W.heap.size (.slice co cn cp) d.cs ∧ Still W w') := hid (by
    rw [← ewy]
    exact HC.out)
  clear ht hr hE A0 B0 HC edr ewy hWs
  go_enter Tryz.func12, Tryz.ntmps12
  go_wp2_with fail
  refine HC2.out.mono ?_
  rintro e w1 ⟨co, cn, cp, he, ho1, h1⟩
  rw [he]
  have A1 := Still.alloc w1 (.cells (dgc d co cn cp) 25)
  have hv := newDg_b w1 d co cn cp
  have HS : Hid (Still w (newDg w1 d co cn cp)) := hid ((HA.out.trans h1).trans A1)
  have HO : Hid (OwG KCc 42 (newDg w1 d co cn cp) W.heap.size (.slice co cn cp) d.cs) := hid (ho1.still A1)
  have HD1 : Hid (Dgb (newDg w1 d co cn cp) g2 zD none 0 0) := hid ((HD.out.still h1).still A1)
  have HV := hid hv
  have HI : Hid (∀ u, Still (newDg w1 d co cn cp) u → u.cell? ⟨w1.heap.size, 0, none⟩ = some (.int .i64 d.kd) ∧ u.cell? ⟨w1.heap.size, 1, none⟩ = some (.int .u64 d.ss) ∧ u.cell? ⟨w1.heap.size, 2, none⟩ = some (.int .i64 d.fr) ∧ u.cell? ⟨w1.heap.size, 3, none⟩ = some (.int .i64 d.to) ∧ u.cell? ⟨w1.heap.size, 4, none⟩ = some (.int .i64 d.mrk) ∧ u.cell? ⟨w1.heap.size, 5, none⟩ = some (.int .i64 d.fi) ∧ u.cell? ⟨w1.heap.size, 6, none⟩ = some (.slice co cn cp) ∧ u.cell? ⟨w1.heap.size, 7, none⟩ = some (.int .i64 d.ak)) := hid (fun u hu => by
    obtain ⟨c0, c1, c2, c3, c4, c5, c6, c7, _⟩ := (hv.still hu).cells
    exact ⟨c0, c1, c2, c3, c4, c5, c6, c7⟩)
  have HLt : Hid (w1.heap.size ≠ g2) := hid (by have h3 := h1.size; have h4 := HWs.out; omega)
  clear he ho1 h1 A1 hv eW eg2 HC2 HD
  go_wp2_with fail
  refine region_I (fun u => u.cell? ⟨w1.heap.size, 0, none⟩ = some (.int .i64 d.kd) ∧ u.cell? ⟨w1.heap.size, 1, none⟩ = some (.int .u64 d.ss) ∧ u.cell? ⟨w1.heap.size, 2, none⟩ = some (.int .i64 d.fr) ∧ u.cell? ⟨w1.heap.size, 3, none⟩ = some (.int .i64 d.to) ∧ u.cell? ⟨w1.heap.size, 4, none⟩ = some (.int .i64 d.mrk) ∧ u.cell? ⟨w1.heap.size, 5, none⟩ = some (.int .i64 d.fi) ∧ u.cell? ⟨w1.heap.size, 6, none⟩ = some (.slice co cn cp) ∧ u.cell? ⟨w1.heap.size, 7, none⟩ = some (.int .i64 d.ak)) (by kernel_rfl) ?_
  refine wpAnyI_take (i := 0) (v := ?tv0) rfl rfl (by kernel_rfl) (by kernel_rfl) (by kernel_rfl) (fun _ _ _ h => h) (fun u hu => ?ty0) ?tk0
  case ty0 => (obtain ⟨k0, k1, k2, k3, k4, k5, k6, k7⟩ := hu; go_simp; try rfl)
  refine wpAnyI_take (i := 1) (v := ?tv1) rfl rfl (by kernel_rfl) (by kernel_rfl) (by kernel_rfl) (fun _ _ _ h => h) (fun u hu => ?ty1) ?tk1
  case ty1 => (go_simp; try rfl)
  refine wpAnyI_ready (HI.out _ ((Fr.refl _ _).drew)) (rs := [2]) (by kernel_rfl) (by simp) ?_
  refine AllI.cons rfl rfl (fun K hK => ?_) AllI.nil
  go_simp
  refine (HT.out _ (HS.out.trans ((Fr.refl _ _).drew))).mono ?_
  rintro e w2 ⟨he, e2⟩
  rw [he, e2]
  clear he e2
  refine hK _ _ ?_
  clear hK K
  obtain ⟨f0, f1, f2, f3, f4, f5, f6, f7, ff⟩ := HD1.out.cells
  have j0 := ff 0
  have j1 := ff 1
  have j2 := ff 2
  have j3 := ff 3
  have j4 := ff 4
  have j5 := ff 5
  have j6 := ff 6
  have j7 := ff 7
  obtain ⟨V, eV⟩ : ∃ V, newDg w1 d co cn cp = V := ⟨_, rfl⟩
  rw [eV] at HS HO HD1 HV HI f0 f1 f2 f3 f4 f5 f6 f7 j0 j1 j2 j3 j4 j5 j6 j7 ⊢
  clear ff
  refine wpAnyI_ready (HI.out _ ((Fr.refl _ _).drew)) (rs := [3]) (by kernel_rfl) (by simp) ?_
  refine AllI.cons rfl rfl (fun K hK => ?_) AllI.nil
  go_simp
  refine hK _ _ ?_
  clear hK K
  have hff := setDg_fr (Fr.refl (fun k => k = g2) V) g2 d co cn cp (.inl rfl)
  have HFs : Hid (Still w (setDg V g2 d co cn cp).drew) := hid (Fr.drew (Fr.trans HS.out hff (fun k hk e => by have := HG.out; omega)))
  have HI2 : Hid (∀ u, Fr (fun k => k = g2) V u → u.cell? ⟨w1.heap.size, 0, none⟩ = some (.int .i64 d.kd) ∧ u.cell? ⟨w1.heap.size, 1, none⟩ = some (.int .u64 d.ss) ∧ u.cell? ⟨w1.heap.size, 2, none⟩ = some (.int .i64 d.fr) ∧ u.cell? ⟨w1.heap.size, 3, none⟩ = some (.int .i64 d.to) ∧ u.cell? ⟨w1.heap.size, 4, none⟩ = some (.int .i64 d.mrk) ∧ u.cell? ⟨w1.heap.size, 5, none⟩ = some (.int .i64 d.fi) ∧ u.cell? ⟨w1.heap.size, 6, none⟩ = some (.slice co cn cp) ∧ u.cell? ⟨w1.heap.size, 7, none⟩ = some (.int .i64 d.ak)) := hid (fun u hu => by
    have hb : Dgb u w1.heap.size d co cn cp := hu.kept HV.out (fun e => HLt.out e)
    obtain ⟨c0, c1, c2, c3, c4, c5, c6, c7, _⟩ := hb.cells
    exact ⟨c0, c1, c2, c3, c4, c5, c6, c7⟩)
  refine wpAnyI_take (i := 4) (v := ?tv4) rfl rfl (by kernel_rfl) (by kernel_rfl) (by kernel_rfl) (fun _ _ _ h => h) (fun u hu => ?ty4) ?tk4
  case ty4 => (go_simp; try rfl)
  refine wpAnyI_done (HI2.out _ (Fr.drew hff)) (by kernel_rfl) ?_ _
  go_wp2_with fail
  exact bodyPost_ret (((HD1.out.set d co cn cp).still ((Fr.refl _ _).drew)).rest rfl _ _ rfl rfl) rfl ⟨co, cn, cp, rfl, ((HO.out.keep hff (fun k hk e => by
    have h5 := (HO.out.block e).1
    have h6 := HWs.out
    omega)).still ((Fr.refl _ _).drew)).less (by have h6 := HWs.out; have h7 := HG.out; omega), HFs.out⟩
end Go.Proofs.YtaaongbdincimaaGreatDoor
