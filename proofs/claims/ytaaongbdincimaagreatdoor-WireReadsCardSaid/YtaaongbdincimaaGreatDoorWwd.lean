/- The program's writer of a whole datagram. -/
import Derived.Test.YtaaongbdincimaaGreatDoorWwc
namespace Go.Proofs.YtaaongbdincimaaGreatDoor
open Go.RowKit
open Wp Vp
set_option maxRecDepth 100000
set_option linter.unusedVariables false
set_option linter.unusedSimpArgs false

set_option maxHeartbeats 4000000 in
theorem zdg2_any (p : Nat) (s : Nat) (hs : s < 18446744073709551616) (f t : Int) (hf : 0 ≤ f ∧ f ≤ 5) (ht : 0 ≤ t ∧ t ≤ 5) (ak : Nat) (hak : ak ≤ 1099511627776) (co : Option Addr) (cn cp : Nat) (hwf : IntKind.u8.wrap f = f) (hwt : IntKind.u8.wrap t = t) (hwa : IntKind.u64.wrap (ak : Int) = (ak : Int)) (w : World) (hw : Wz w p none [])  :
    Calls Tryz.prog 21 #[wzv p, dgv ⟨2, (s : Int), f, t, 0, 0, [], (ak : Int)⟩ co cn cp] w fun r w' => r = .returned (.tuple #[]) ∧ ∃ ao', Lz w w' p none ao' [] (opnB ⟨2, (s : Int), f, t, 0, 0, [], (ak : Int)⟩) := by
  have A0 := Still.alloc w (.cells #[.pointer (some ⟨p, 0, none⟩)] 50)
  have B0 := Ofz.new hw #[.pointer (some ⟨p, 0, none⟩)] 50
  have A1 := Still.alloc (w.alloc (.cells #[.pointer (some ⟨p, 0, none⟩)] 50)) (.cells (dgc ⟨2, (s : Int), f, t, 0, 0, [], (ak : Int)⟩ co cn cp) 25)
  have B1 := Ofz.new (hw.still A0) (dgc ⟨2, (s : Int), f, t, 0, 0, [], (ak : Int)⟩ co cn cp) 25
  have B0 := B0.still A1
  have A0 := A0.trans A1
  obtain ⟨W, eW⟩ : ∃ W, (w.alloc (.cells #[.pointer (some ⟨p, 0, none⟩)] 50)).alloc (.cells (dgc ⟨2, (s : Int), f, t, 0, 0, [], (ak : Int)⟩ co cn cp) 25) = W := ⟨_, rfl⟩
  rw [size_alloc] at B1
  obtain ⟨g, eg⟩ : ∃ g, w.heap.size = g := ⟨_, rfl⟩
  rw [eW] at A0 B0 B1
  rw [eg] at B0 B1
  have HA := hid A0
  have HB0 := hid B0
  have HO0 := hid B1
  have HL0 := hid (Lz.nil (hw.still A0) (Fr.refl _ _))
  clear A0 A1 B0 B1 hw
  have c0 := HB0.out.wr
  have d0 := HO0.out.cell 0
  have d1 := HO0.out.cell 1
  have d2 := HO0.out.cell 2
  have d3 := HO0.out.cell 3
  have d4 := HO0.out.cell 4
  have d5 := HO0.out.cell 5
  have d6 := HO0.out.cell 6
  have d7 := HO0.out.cell 7
  simp only [List.getElem?_cons_zero, List.getElem?_cons_succ] at d0 d1 d2 d3 d4 d5 d6 d7
  go_enter Tryz.func21, Tryz.ntmps21
  have HC := hid (zbyte_any p none ([] ++ ([])) (101) (101) (rfl) (by rw [List.length_append]; simp only [List.length_nil]; omega) W HL0.out.q)
  go_wp2_with fail
  refine HC.out.mono ?_
  rintro e w1 ⟨he, ao1, h1⟩
  rw [he]
  have HL1 := hid (HL0.out.trans h1)
  have HB1 := hid (HB0.out.on h1)
  have HO1 := hid (HO0.out.on h1)
  have z1 : ([] ++ [(101 : UInt8)]).length ≤ 1 := by
    have zz := True.intro
    simp only [List.length_append, List.length_cons, List.length_nil, Wp.sumF_len] at *
    omega
  clear he h1 HC HL0 HB0 HO0 c0 d0 d1 d2 d3 d4 d5 d6 d7
  have c0 := HB1.out.wr
  have d0 := HO1.out.cell 0
  have d1 := HO1.out.cell 1
  have d2 := HO1.out.cell 2
  have d3 := HO1.out.cell 3
  have d4 := HO1.out.cell 4
  have d5 := HO1.out.cell 5
  have d6 := HO1.out.cell 6
  have d7 := HO1.out.cell 7
  simp only [List.getElem?_cons_zero, List.getElem?_cons_succ] at d0 d1 d2 d3 d4 d5 d6 d7
  have HC := hid (zbyte_any p ao1 ([] ++ ([] ++ [(101 : UInt8)])) (by8 2) (2) (rfl) (by rw [List.length_append]; simp only [List.length_nil]; omega) w1 HL1.out.q)
  go_wp2_with fail
  refine HC.out.mono ?_
  rintro e w2 ⟨he, ao2, h2⟩
  rw [he]
  have HL2 := hid (HL1.out.trans h2)
  have HB2 := hid (HB1.out.on h2)
  have HO2 := hid (HO1.out.on h2)
  have z2 : ([] ++ [(101 : UInt8)] ++ [by8 2]).length ≤ 2 := by
    have zz := True.intro
    simp only [List.length_append, List.length_cons, List.length_nil, Wp.sumF_len] at *
    omega
  clear he h2 HC HL1 HB1 HO1 c0 d0 d1 d2 d3 d4 d5 d6 d7
  have c0 := HB2.out.wr
  have d0 := HO2.out.cell 0
  have d1 := HO2.out.cell 1
  have d2 := HO2.out.cell 2
  have d3 := HO2.out.cell 3
  have d4 := HO2.out.cell 4
  have d5 := HO2.out.cell 5
  have d6 := HO2.out.cell 6
  have d7 := HO2.out.cell 7
  simp only [List.getElem?_cons_zero, List.getElem?_cons_succ] at d0 d1 d2 d3 d4 d5 d6 d7
  have HC := hid (zfull_any p ao2 ([] ++ ([] ++ [(101 : UInt8)] ++ [by8 2])) s hs (by rw [List.length_append]; simp only [List.length_nil]; omega) w2 HL2.out.q)
  go_wp2_with fail
  refine HC.out.mono ?_
  rintro e w3 ⟨he, ao3, h3⟩
  rw [he]
  have HL3 := hid (HL2.out.trans h3)
  have HB3 := hid (HB2.out.on h3)
  have HO3 := hid (HO2.out.on h3)
  have z3 : ([] ++ [(101 : UInt8)] ++ [by8 2] ++ Wp.sumF 8 s).length ≤ 10 := by
    have zz := True.intro
    simp only [List.length_append, List.length_cons, List.length_nil, Wp.sumF_len] at *
    omega
  clear he h3 HC HL2 HB2 HO2 c0 d0 d1 d2 d3 d4 d5 d6 d7
  have c0 := HB3.out.wr
  have d0 := HO3.out.cell 0
  have d1 := HO3.out.cell 1
  have d2 := HO3.out.cell 2
  have d3 := HO3.out.cell 3
  have d4 := HO3.out.cell 4
  have d5 := HO3.out.cell 5
  have d6 := HO3.out.cell 6
  have d7 := HO3.out.cell 7
  simp only [List.getElem?_cons_zero, List.getElem?_cons_succ] at d0 d1 d2 d3 d4 d5 d6 d7
  have HC := hid (zbyte_any p ao3 ([] ++ ([] ++ [(101 : UInt8)] ++ [by8 2] ++ Wp.sumF 8 s)) (by8 f) (f) ((by8_to (by omega) (by omega)).symm) (by rw [List.length_append]; simp only [List.length_nil]; omega) w3 HL3.out.q)
  go_wp2_with fail
  refine HC.out.mono ?_
  rintro e w4 ⟨he, ao4, h4⟩
  rw [he]
  have HL4 := hid (HL3.out.trans h4)
  have HB4 := hid (HB3.out.on h4)
  have HO4 := hid (HO3.out.on h4)
  have z4 : ([] ++ [(101 : UInt8)] ++ [by8 2] ++ Wp.sumF 8 s ++ [by8 f]).length ≤ 11 := by
    have zz := True.intro
    simp only [List.length_append, List.length_cons, List.length_nil, Wp.sumF_len] at *
    omega
  clear he h4 HC HL3 HB3 HO3 c0 d0 d1 d2 d3 d4 d5 d6 d7
  have c0 := HB4.out.wr
  have d0 := HO4.out.cell 0
  have d1 := HO4.out.cell 1
  have d2 := HO4.out.cell 2
  have d3 := HO4.out.cell 3
  have d4 := HO4.out.cell 4
  have d5 := HO4.out.cell 5
  have d6 := HO4.out.cell 6
  have d7 := HO4.out.cell 7
  simp only [List.getElem?_cons_zero, List.getElem?_cons_succ] at d0 d1 d2 d3 d4 d5 d6 d7
  have HC := hid (zbyte_any p ao4 ([] ++ ([] ++ [(101 : UInt8)] ++ [by8 2] ++ Wp.sumF 8 s ++ [by8 f])) (by8 t) (t) ((by8_to (by omega) (by omega)).symm) (by rw [List.length_append]; simp only [List.length_nil]; omega) w4 HL4.out.q)
  go_wp2_with fail
  refine HC.out.mono ?_
  rintro e w5 ⟨he, ao5, h5⟩
  rw [he]
  have HL5 := hid (HL4.out.trans h5)
  have HB5 := hid (HB4.out.on h5)
  have HO5 := hid (HO4.out.on h5)
  have z5 : ([] ++ [(101 : UInt8)] ++ [by8 2] ++ Wp.sumF 8 s ++ [by8 f] ++ [by8 t]).length ≤ 12 := by
    have zz := True.intro
    simp only [List.length_append, List.length_cons, List.length_nil, Wp.sumF_len] at *
    omega
  clear he h5 HC HL4 HB4 HO4 c0 d0 d1 d2 d3 d4 d5 d6 d7
  have c0 := HB5.out.wr
  have d0 := HO5.out.cell 0
  have d1 := HO5.out.cell 1
  have d2 := HO5.out.cell 2
  have d3 := HO5.out.cell 3
  have d4 := HO5.out.cell 4
  have d5 := HO5.out.cell 5
  have d6 := HO5.out.cell 6
  have d7 := HO5.out.cell 7
  simp only [List.getElem?_cons_zero, List.getElem?_cons_succ] at d0 d1 d2 d3 d4 d5 d6 d7
  have HC := hid (zuint_any p ao5 ([] ++ ([] ++ [(101 : UInt8)] ++ [by8 2] ++ Wp.sumF 8 s ++ [by8 f] ++ [by8 t])) ak (by omega) (by rw [List.length_append]; simp only [List.length_nil]; omega) w5 HL5.out.q)
  go_wp2_with fail
  refine HC.out.mono ?_
  rintro e w6 ⟨he, ao6, h6⟩
  rw [he]
  have HL6 := hid (HL5.out.trans h6)
  have HB6 := hid (HB5.out.on h6)
  have HO6 := hid (HO5.out.on h6)
  have z6 : ([] ++ [(101 : UInt8)] ++ [by8 2] ++ Wp.sumF 8 s ++ [by8 f] ++ [by8 t] ++ Cp.form ak).length ≤ 22 := by
    have zz := Cp.form_ten (n := ak) (by omega)
    simp only [List.length_append, List.length_cons, List.length_nil, Wp.sumF_len] at *
    omega
  clear he h6 HC HL5 HB5 HO5 c0 d0 d1 d2 d3 d4 d5 d6 d7
  have c0 := HB6.out.wr
  have d0 := HO6.out.cell 0
  have d1 := HO6.out.cell 1
  have d2 := HO6.out.cell 2
  have d3 := HO6.out.cell 3
  have d4 := HO6.out.cell 4
  have d5 := HO6.out.cell 5
  have d6 := HO6.out.cell 6
  have d7 := HO6.out.cell 7
  simp only [List.getElem?_cons_zero, List.getElem?_cons_succ] at d0 d1 d2 d3 d4 d5 d6 d7
  have HF : Hid (Lz w w6 p none ao6 [] (opnB ⟨2, (s : Int), f, t, 0, 0, [], (ak : Int)⟩)) := hid (by
    have h1 := HL6.out.from HA.out
    have e : [] ++ [(101 : UInt8)] ++ [by8 2] ++ Wp.sumF 8 s ++ [by8 f] ++ [by8 t] ++ Cp.form ak = opnB ⟨2, (s : Int), f, t, 0, 0, [], (ak : Int)⟩ := by
      unfold opnB hdB tnB
      dsimp only
      rw [if_neg (by decide)]
      skip
      simp only [Int.toNat_natCast, List.append_assoc, List.nil_append, List.cons_append, List.append_nil]
    rw [e] at h1
    exact h1)
  clear HL6 HB6 HO6
  go_wp2_with fail
  go_end0
  exact ⟨rfl, ao6, HF.out⟩
set_option maxHeartbeats 4000000 in
theorem zdg1_any (p : Nat) (s : Nat) (hs : s < 18446744073709551616) (f t : Int) (hf : 0 ≤ f ∧ f ≤ 5) (ht : 0 ≤ t ∧ t ≤ 5) (ak : Nat) (hak : ak ≤ 1099511627776) (co : Option Addr) (cn cp : Nat) (hwf : IntKind.u8.wrap f = f) (hwt : IntKind.u8.wrap t = t) (hwa : IntKind.u64.wrap (ak : Int) = (ak : Int)) (mk fi : Nat) (cs : List Cc) (hm : 0 ≤ (mk : Int) ∧ (mk : Int) ≤ 1099511627776) (hfi : fi ≤ 1099511627776) (hall : ∀ x ∈ cs, (1 ≤ x.fr ∧ x.fr ≤ 1099511627776) ∧ chkO x.v x.a x.b x.c = 0) (hcn : cn ≤ 336) (hln : cs.length = cn) (hwm : IntKind.u64.wrap (mk : Int) = (mk : Int)) (hwi : IntKind.u64.wrap (fi : Int) = (fi : Int)) (w : World) (hw : Wz w p none []) (hr : RdG KCc w co cn cs) (hne : ∀ a, co = some a → 0 < cn → ¬ Wf p none a.block) :
    Calls Tryz.prog 21 #[wzv p, dgv ⟨1, (s : Int), f, t, (mk : Int), (fi : Int), cs, (ak : Int)⟩ co cn cp] w fun r w' => r = .returned (.tuple #[]) ∧ ∃ ao', Lz w w' p none ao' [] (opnB ⟨1, (s : Int), f, t, (mk : Int), (fi : Int), cs, (ak : Int)⟩) := by
  have A0 := Still.alloc w (.cells #[.pointer (some ⟨p, 0, none⟩)] 50)
  have B0 := Ofz.new hw #[.pointer (some ⟨p, 0, none⟩)] 50
  have A1 := Still.alloc (w.alloc (.cells #[.pointer (some ⟨p, 0, none⟩)] 50)) (.cells (dgc ⟨1, (s : Int), f, t, (mk : Int), (fi : Int), cs, (ak : Int)⟩ co cn cp) 25)
  have B1 := Ofz.new (hw.still A0) (dgc ⟨1, (s : Int), f, t, (mk : Int), (fi : Int), cs, (ak : Int)⟩ co cn cp) 25
  have B0 := B0.still A1
  have A0 := A0.trans A1
  obtain ⟨W, eW⟩ : ∃ W, (w.alloc (.cells #[.pointer (some ⟨p, 0, none⟩)] 50)).alloc (.cells (dgc ⟨1, (s : Int), f, t, (mk : Int), (fi : Int), cs, (ak : Int)⟩ co cn cp) 25) = W := ⟨_, rfl⟩
  rw [size_alloc] at B1
  obtain ⟨g, eg⟩ : ∃ g, w.heap.size = g := ⟨_, rfl⟩
  rw [eW] at A0 B0 B1
  rw [eg] at B0 B1
  have HA := hid A0
  have HB0 := hid B0
  have HO0 := hid B1
  have HL0 := hid (Lz.nil (hw.still A0) (Fr.refl _ _))
  have HR0 := hid (hr.still A0)
  have HNe := hid hne
  have HAl := hid hall
  clear hr hne hall
  clear A0 A1 B0 B1 hw
  have c0 := HB0.out.wr
  have d0 := HO0.out.cell 0
  have d1 := HO0.out.cell 1
  have d2 := HO0.out.cell 2
  have d3 := HO0.out.cell 3
  have d4 := HO0.out.cell 4
  have d5 := HO0.out.cell 5
  have d6 := HO0.out.cell 6
  have d7 := HO0.out.cell 7
  simp only [List.getElem?_cons_zero, List.getElem?_cons_succ] at d0 d1 d2 d3 d4 d5 d6 d7
  go_enter Tryz.func21, Tryz.ntmps21
  have HC := hid (zbyte_any p none ([] ++ ([])) (101) (101) (rfl) (by rw [List.length_append]; simp only [List.length_nil]; omega) W HL0.out.q)
  go_wp2_with fail
  refine HC.out.mono ?_
  rintro e w1 ⟨he, ao1, h1⟩
  rw [he]
  have HL1 := hid (HL0.out.trans h1)
  have HB1 := hid (HB0.out.on h1)
  have HO1 := hid (HO0.out.on h1)
  have z1 : ([] ++ [(101 : UInt8)]).length ≤ 1 := by
    have zz := True.intro
    simp only [List.length_append, List.length_cons, List.length_nil, Wp.sumF_len] at *
    omega
  clear he h1 HC HL0 HB0 HO0 c0 d0 d1 d2 d3 d4 d5 d6 d7
  have c0 := HB1.out.wr
  have d0 := HO1.out.cell 0
  have d1 := HO1.out.cell 1
  have d2 := HO1.out.cell 2
  have d3 := HO1.out.cell 3
  have d4 := HO1.out.cell 4
  have d5 := HO1.out.cell 5
  have d6 := HO1.out.cell 6
  have d7 := HO1.out.cell 7
  simp only [List.getElem?_cons_zero, List.getElem?_cons_succ] at d0 d1 d2 d3 d4 d5 d6 d7
  have HC := hid (zbyte_any p ao1 ([] ++ ([] ++ [(101 : UInt8)])) (by8 1) (1) (rfl) (by rw [List.length_append]; simp only [List.length_nil]; omega) w1 HL1.out.q)
  go_wp2_with fail
  refine HC.out.mono ?_
  rintro e w2 ⟨he, ao2, h2⟩
  rw [he]
  have HL2 := hid (HL1.out.trans h2)
  have HB2 := hid (HB1.out.on h2)
  have HO2 := hid (HO1.out.on h2)
  have z2 : ([] ++ [(101 : UInt8)] ++ [by8 1]).length ≤ 2 := by
    have zz := True.intro
    simp only [List.length_append, List.length_cons, List.length_nil, Wp.sumF_len] at *
    omega
  clear he h2 HC HL1 HB1 HO1 c0 d0 d1 d2 d3 d4 d5 d6 d7
  have c0 := HB2.out.wr
  have d0 := HO2.out.cell 0
  have d1 := HO2.out.cell 1
  have d2 := HO2.out.cell 2
  have d3 := HO2.out.cell 3
  have d4 := HO2.out.cell 4
  have d5 := HO2.out.cell 5
  have d6 := HO2.out.cell 6
  have d7 := HO2.out.cell 7
  simp only [List.getElem?_cons_zero, List.getElem?_cons_succ] at d0 d1 d2 d3 d4 d5 d6 d7
  have HC := hid (zfull_any p ao2 ([] ++ ([] ++ [(101 : UInt8)] ++ [by8 1])) s hs (by rw [List.length_append]; simp only [List.length_nil]; omega) w2 HL2.out.q)
  go_wp2_with fail
  refine HC.out.mono ?_
  rintro e w3 ⟨he, ao3, h3⟩
  rw [he]
  have HL3 := hid (HL2.out.trans h3)
  have HB3 := hid (HB2.out.on h3)
  have HO3 := hid (HO2.out.on h3)
  have z3 : ([] ++ [(101 : UInt8)] ++ [by8 1] ++ Wp.sumF 8 s).length ≤ 10 := by
    have zz := True.intro
    simp only [List.length_append, List.length_cons, List.length_nil, Wp.sumF_len] at *
    omega
  clear he h3 HC HL2 HB2 HO2 c0 d0 d1 d2 d3 d4 d5 d6 d7
  have c0 := HB3.out.wr
  have d0 := HO3.out.cell 0
  have d1 := HO3.out.cell 1
  have d2 := HO3.out.cell 2
  have d3 := HO3.out.cell 3
  have d4 := HO3.out.cell 4
  have d5 := HO3.out.cell 5
  have d6 := HO3.out.cell 6
  have d7 := HO3.out.cell 7
  simp only [List.getElem?_cons_zero, List.getElem?_cons_succ] at d0 d1 d2 d3 d4 d5 d6 d7
  have HC := hid (zbyte_any p ao3 ([] ++ ([] ++ [(101 : UInt8)] ++ [by8 1] ++ Wp.sumF 8 s)) (by8 f) (f) ((by8_to (by omega) (by omega)).symm) (by rw [List.length_append]; simp only [List.length_nil]; omega) w3 HL3.out.q)
  go_wp2_with fail
  refine HC.out.mono ?_
  rintro e w4 ⟨he, ao4, h4⟩
  rw [he]
  have HL4 := hid (HL3.out.trans h4)
  have HB4 := hid (HB3.out.on h4)
  have HO4 := hid (HO3.out.on h4)
  have z4 : ([] ++ [(101 : UInt8)] ++ [by8 1] ++ Wp.sumF 8 s ++ [by8 f]).length ≤ 11 := by
    have zz := True.intro
    simp only [List.length_append, List.length_cons, List.length_nil, Wp.sumF_len] at *
    omega
  clear he h4 HC HL3 HB3 HO3 c0 d0 d1 d2 d3 d4 d5 d6 d7
  have c0 := HB4.out.wr
  have d0 := HO4.out.cell 0
  have d1 := HO4.out.cell 1
  have d2 := HO4.out.cell 2
  have d3 := HO4.out.cell 3
  have d4 := HO4.out.cell 4
  have d5 := HO4.out.cell 5
  have d6 := HO4.out.cell 6
  have d7 := HO4.out.cell 7
  simp only [List.getElem?_cons_zero, List.getElem?_cons_succ] at d0 d1 d2 d3 d4 d5 d6 d7
  have HC := hid (zbyte_any p ao4 ([] ++ ([] ++ [(101 : UInt8)] ++ [by8 1] ++ Wp.sumF 8 s ++ [by8 f])) (by8 t) (t) ((by8_to (by omega) (by omega)).symm) (by rw [List.length_append]; simp only [List.length_nil]; omega) w4 HL4.out.q)
  go_wp2_with fail
  refine HC.out.mono ?_
  rintro e w5 ⟨he, ao5, h5⟩
  rw [he]
  have HL5 := hid (HL4.out.trans h5)
  have HB5 := hid (HB4.out.on h5)
  have HO5 := hid (HO4.out.on h5)
  have z5 : ([] ++ [(101 : UInt8)] ++ [by8 1] ++ Wp.sumF 8 s ++ [by8 f] ++ [by8 t]).length ≤ 12 := by
    have zz := True.intro
    simp only [List.length_append, List.length_cons, List.length_nil, Wp.sumF_len] at *
    omega
  clear he h5 HC HL4 HB4 HO4 c0 d0 d1 d2 d3 d4 d5 d6 d7
  have c0 := HB5.out.wr
  have d0 := HO5.out.cell 0
  have d1 := HO5.out.cell 1
  have d2 := HO5.out.cell 2
  have d3 := HO5.out.cell 3
  have d4 := HO5.out.cell 4
  have d5 := HO5.out.cell 5
  have d6 := HO5.out.cell 6
  have d7 := HO5.out.cell 7
  simp only [List.getElem?_cons_zero, List.getElem?_cons_succ] at d0 d1 d2 d3 d4 d5 d6 d7
  have HC := hid (zuint_any p ao5 ([] ++ ([] ++ [(101 : UInt8)] ++ [by8 1] ++ Wp.sumF 8 s ++ [by8 f] ++ [by8 t])) mk (by omega) (by rw [List.length_append]; simp only [List.length_nil]; omega) w5 HL5.out.q)
  go_wp2_with fail
  refine HC.out.mono ?_
  rintro e w6 ⟨he, ao6, h6⟩
  rw [he]
  have HL6 := hid (HL5.out.trans h6)
  have HB6 := hid (HB5.out.on h6)
  have HO6 := hid (HO5.out.on h6)
  have z6 : ([] ++ [(101 : UInt8)] ++ [by8 1] ++ Wp.sumF 8 s ++ [by8 f] ++ [by8 t] ++ Cp.form mk).length ≤ 22 := by
    have zz := Cp.form_ten (n := mk) (by omega)
    simp only [List.length_append, List.length_cons, List.length_nil, Wp.sumF_len] at *
    omega
  clear he h6 HC HL5 HB5 HO5 c0 d0 d1 d2 d3 d4 d5 d6 d7
  have c0 := HB6.out.wr
  have d0 := HO6.out.cell 0
  have d1 := HO6.out.cell 1
  have d2 := HO6.out.cell 2
  have d3 := HO6.out.cell 3
  have d4 := HO6.out.cell 4
  have d5 := HO6.out.cell 5
  have d6 := HO6.out.cell 6
  have d7 := HO6.out.cell 7
  simp only [List.getElem?_cons_zero, List.getElem?_cons_succ] at d0 d1 d2 d3 d4 d5 d6 d7
  have HC := hid (zuint_any p ao6 ([] ++ ([] ++ [(101 : UInt8)] ++ [by8 1] ++ Wp.sumF 8 s ++ [by8 f] ++ [by8 t] ++ Cp.form mk)) fi (by omega) (by rw [List.length_append]; simp only [List.length_nil]; omega) w6 HL6.out.q)
  go_wp2_with fail
  refine HC.out.mono ?_
  rintro e w7 ⟨he, ao7, h7⟩
  rw [he]
  have HL7 := hid (HL6.out.trans h7)
  have HB7 := hid (HB6.out.on h7)
  have HO7 := hid (HO6.out.on h7)
  have z7 : ([] ++ [(101 : UInt8)] ++ [by8 1] ++ Wp.sumF 8 s ++ [by8 f] ++ [by8 t] ++ Cp.form mk ++ Cp.form fi).length ≤ 32 := by
    have zz := Cp.form_ten (n := fi) (by omega)
    simp only [List.length_append, List.length_cons, List.length_nil, Wp.sumF_len] at *
    omega
  clear he h7 HC HL6 HB6 HO6 c0 d0 d1 d2 d3 d4 d5 d6 d7
  have c0 := HB7.out.wr
  have d0 := HO7.out.cell 0
  have d1 := HO7.out.cell 1
  have d2 := HO7.out.cell 2
  have d3 := HO7.out.cell 3
  have d4 := HO7.out.cell 4
  have d5 := HO7.out.cell 5
  have d6 := HO7.out.cell 6
  have d7 := HO7.out.cell 7
  simp only [List.getElem?_cons_zero, List.getElem?_cons_succ] at d0 d1 d2 d3 d4 d5 d6 d7
  have HC := hid (zcmds_any p ao7 ([] ++ ([] ++ [(101 : UInt8)] ++ [by8 1] ++ Wp.sumF 8 s ++ [by8 f] ++ [by8 t] ++ Cp.form mk ++ Cp.form fi)) ⟨1, (s : Int), f, t, (mk : Int), (fi : Int), cs, (ak : Int)⟩ co cn cp hm HAl.out hcn (by rw [List.length_append]; simp only [List.length_nil]; omega) w7 HL7.out.q (HR0.out.keepZ HL7.out.f (fun a ha h0 e => HNe.out a ha h0 e)) (fun a ha h0 => HL7.out.off (HR0.out.ltZ h0 a ha) (HNe.out a ha h0)))
  go_wp2_with fail
  refine HC.out.mono ?_
  rintro e w8 ⟨he, ao8, h8⟩
  rw [he]
  have HL8 := hid (HL7.out.trans h8)
  have HB8 := hid (HB7.out.on h8)
  have HO8 := hid (HO7.out.on h8)
  have z8 : ([] ++ [(101 : UInt8)] ++ [by8 1] ++ Wp.sumF 8 s ++ [by8 f] ++ [by8 t] ++ Cp.form mk ++ Cp.form fi ++ (Cp.form cn ++ csB (mk : Int) cs)).length ≤ 10500 := by
    have zz := And.intro (Cp.form_ten (n := cn) (by omega)) (And.intro (csB_le hm cs HAl.out) hln)
    simp only [List.length_append, List.length_cons, List.length_nil, Wp.sumF_len] at *
    omega
  clear he h8 HC HL7 HB7 HO7 c0 d0 d1 d2 d3 d4 d5 d6 d7
  have c0 := HB8.out.wr
  have d0 := HO8.out.cell 0
  have d1 := HO8.out.cell 1
  have d2 := HO8.out.cell 2
  have d3 := HO8.out.cell 3
  have d4 := HO8.out.cell 4
  have d5 := HO8.out.cell 5
  have d6 := HO8.out.cell 6
  have d7 := HO8.out.cell 7
  simp only [List.getElem?_cons_zero, List.getElem?_cons_succ] at d0 d1 d2 d3 d4 d5 d6 d7
  have HC := hid (zuint_any p ao8 ([] ++ ([] ++ [(101 : UInt8)] ++ [by8 1] ++ Wp.sumF 8 s ++ [by8 f] ++ [by8 t] ++ Cp.form mk ++ Cp.form fi ++ (Cp.form cn ++ csB (mk : Int) cs))) ak (by omega) (by rw [List.length_append]; simp only [List.length_nil]; omega) w8 HL8.out.q)
  go_wp2_with fail
  refine HC.out.mono ?_
  rintro e w9 ⟨he, ao9, h9⟩
  rw [he]
  have HL9 := hid (HL8.out.trans h9)
  have HB9 := hid (HB8.out.on h9)
  have HO9 := hid (HO8.out.on h9)
  have z9 : ([] ++ [(101 : UInt8)] ++ [by8 1] ++ Wp.sumF 8 s ++ [by8 f] ++ [by8 t] ++ Cp.form mk ++ Cp.form fi ++ (Cp.form cn ++ csB (mk : Int) cs) ++ Cp.form ak).length ≤ 10520 := by
    have zz := Cp.form_ten (n := ak) (by omega)
    simp only [List.length_append, List.length_cons, List.length_nil, Wp.sumF_len] at *
    omega
  clear he h9 HC HL8 HB8 HO8 c0 d0 d1 d2 d3 d4 d5 d6 d7
  have c0 := HB9.out.wr
  have d0 := HO9.out.cell 0
  have d1 := HO9.out.cell 1
  have d2 := HO9.out.cell 2
  have d3 := HO9.out.cell 3
  have d4 := HO9.out.cell 4
  have d5 := HO9.out.cell 5
  have d6 := HO9.out.cell 6
  have d7 := HO9.out.cell 7
  simp only [List.getElem?_cons_zero, List.getElem?_cons_succ] at d0 d1 d2 d3 d4 d5 d6 d7
  have HF : Hid (Lz w w9 p none ao9 [] (opnB ⟨1, (s : Int), f, t, (mk : Int), (fi : Int), cs, (ak : Int)⟩)) := hid (by
    have h1 := HL9.out.from HA.out
    have e : [] ++ [(101 : UInt8)] ++ [by8 1] ++ Wp.sumF 8 s ++ [by8 f] ++ [by8 t] ++ Cp.form mk ++ Cp.form fi ++ (Cp.form cn ++ csB (mk : Int) cs) ++ Cp.form ak = opnB ⟨1, (s : Int), f, t, (mk : Int), (fi : Int), cs, (ak : Int)⟩ := by
      unfold opnB hdB tnB
      dsimp only
      rw [if_pos rfl]
      rw [hln]
      simp only [Int.toNat_natCast, List.append_assoc, List.nil_append, List.cons_append, List.append_nil]
    rw [e] at h1
    exact h1)
  clear HL9 HB9 HO9
  go_wp2_with fail
  go_end0
  exact ⟨rfl, ao9, HF.out⟩
end Go.Proofs.YtaaongbdincimaaGreatDoor
