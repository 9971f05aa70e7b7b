/- Parts of the proof, laid end to end. -/
import Derived.Test.YtkgbmefaphhcnaaGreatDoorZE15
import Derived.Test.YtkgbmefaphhcnaaGreatDoorZE16
import Derived.Test.YtkgbmefaphhcnaaGreatDoorZE25
namespace Go.Proofs.YtkgbmefaphhcnaaGreatDoor
open Go.RowKit
open Np Za Ka Ja Ea Ha
set_option maxRecDepth 100000
set_option linter.unusedVariables false
theorem counted_y (so : Option Addr) (m c : Nat) (cs : List UInt8) (w : World) (hx : Rd w so m c cs) (h47 : m + 10 <= 140737488355328) :
  Calls Tryz.prog 46 #[.slice so m c] w fun r w' => ∃ ao cap, r = .returned (.slice ao (Cp.counted cs).length cap) /\ Ow 5 w' ao (Cp.counted cs).length cap (Cp.counted cs) /\ Still w w' := by
 obtain ⟨i0, hi, hz, hs1, hb1⟩ := info_parts info_u8
 have hm := hx.small
 have hten := Cp.form_ten (n := m) (by omega)
 have HX : Hid (Cp.counted cs = Cp.form m ++ cs) := by unfold Cp.counted; rw [hx.len]; exact rfl
 have hlc := hx.len
 go_enter Tryz.func46, Tryz.ntmps46
 go_wp2_with fail
 refine (rform_any m (by omega) _).mono ?_
 rintro r w1 ⟨fo, d, rfl, ho, hst, hfo⟩
 go_wp2_with (at_builtin; refine wpList_app _ rfl _ _ 38 rfl 5 i0 Tryz.underlying38 hi hz hs1 hb1 fo so (Cp.form m).length d m c (Cp.form m) cs rfl rfl ho (hx.still hst) (by omega) ?_; intro ao2 cap2 w2 ho2 hf2 hn2 _)
 go_ret
 have hl : (Cp.form m).length + m = (Cp.counted cs).length := by rw [HX.out, List.length_append, hlc]
 refine ⟨ao2, cap2, by rw [<- hl]; rfl, by rw [<- hl, HX.out]; exact ho2, Fr.trans (F := fun _ => False) hst hf2 ?_⟩
 rintro k hk ⟨a, h1, rfl⟩
 have := hfo a h1
 omega
set_option maxHeartbeats 8000000 in
theorem rses_yes (p0 : Int) (q : Nat) (C R : Int) (s : ByteArray) (lo : Option Addr) (ln lc : Nat) (l : List Int) (hh : InC p0 q C R s l) (w : World) (hr : RdI w lo ln lc l)
  (hck : ∀ u, Still w u -> Calls Tryz.prog 43 #[.agg #[.int .i64 p0, .int .u64 (q : Int), .int .i64 C, .int .i64 R, .string s, .slice lo ln lc]] u fun e w' => e = .returned (.int .i64 0) /\ Still u w') :
  Calls Tryz.prog 18 #[.agg #[.int .i64 p0, .int .u64 (q : Int), .int .i64 C, .int .i64 R, .string s, .slice lo ln lc]] w fun e w' => e = .returned (.tuple #[.int .u64 (ofI (ssB p0 q C R s l)), .int .i64 0]) /\ Still w w' := by
 obtain ⟨i0, hi0, hz0, hs10, hb10⟩ := info_parts info_u8
 have HLn : Hid (l.length = ln) := hid hr.len
 have hcv := fun (W : World) => Lib.run_convert_string_bytes (P := Tryz.prog) W 9 38 5 s Tryz.underlying9 Tryz.underlying38 Tryz.underlying5
 have HI := hid hh
 have z1 := nsB_le (l := [p0]) (fun n hn => by simp only [List.mem_cons, List.not_mem_nil, or_false] at hn; rw [hn]; exact HI.out.ip)
 have z3 := nsB_le (l := [C, R]) (fun n hn => by simp only [List.mem_cons, List.not_mem_nil, or_false] at hn; rcases hn with rfl | rfl; exact HI.out.iC; exact HI.out.iR)
 have z4 : (Cp.counted s.data.toList).length <= s.size + 10 := by
  have h1 := Cp.form_ten (n := s.data.toList.length) (by rw [bs_len]; have := HI.out.iz; omega)
  unfold Cp.counted
  rw [List.length_append, bs_len]
  rw [bs_len] at h1
  omega
 have z5 := Cp.form_ten (n := ln) (by have := HLn.out; have := HI.out.iz; omega)
 have z6 := nsB_le (l := l) HI.out.il
 have HZ : Hid ((nsB [p0]).length <= 10 /\ (Cp.form q).length <= 10 /\ (nsB [C, R]).length <= 20 /\ (Cp.counted s.data.toList).length <= 100010 /\ (Cp.form ln).length <= 10 /\ s.size <= 100000 /\ ln <= 10000) := hid (by
  have := HI.out.iz
  have := HLn.out
  have := Cp.form_ten hh.iq
  simp only [List.length_cons, List.length_nil] at z1 z3
  exact ⟨by omega, by omega, by omega, by omega, by omega, by omega, by omega⟩)
 have HSs : Hid (ssB p0 q C R s l = nsB [p0] ++ Cp.form q ++ nsB [C, R] ++ Cp.counted s.data.toList ++ Cp.form ln ++ nsB l) := hid (by rw [<- HLn.out]; rfl)
 obtain ⟨SS, eSS⟩ : ∃ X, ssB p0 q C R s l = X := ⟨_, rfl⟩
 rw [eSS] at HSs ⊢
 clear eSS z1 z3 z4 z5 z6
 obtain ⟨Y1, eY1⟩ : ∃ X, nsB [p0] = X := ⟨_, rfl⟩
 obtain ⟨Y2, eY2⟩ : ∃ X, Cp.form q = X := ⟨_, rfl⟩
 obtain ⟨Y3, eY3⟩ : ∃ X, nsB [C, R] = X := ⟨_, rfl⟩
 obtain ⟨Y4, eY4⟩ : ∃ X, Cp.counted s.data.toList = X := ⟨_, rfl⟩
 obtain ⟨Y5, eY5⟩ : ∃ X, Cp.form ln = X := ⟨_, rfl⟩
 obtain ⟨Y6, eY6⟩ : ∃ X, nsB l = X := ⟨_, rfl⟩
 have HC1 : Hid (∀ u, Calls Tryz.prog 44 #[.slice none 0 0, .slice (some ⟨u.heap.size, 0, none⟩) 1 1] (u.alloc (.cells #[.int .i64 p0] 3)) fun e w' => ∃ ao' cap', e = .returned (.slice ao' Y1.length cap') /\ Oz u w' none ao' cap' Y1) := hid (fun u => by
  have h := rlit_any none 0 [] [p0] (fun n hn => by simp only [List.mem_cons, List.not_mem_nil, or_false] at hn; rw [hn]; exact HI.out.ip) (by simp) u (Ow.empty _ _)
  rw [List.nil_append, eY1] at h
  exact h)
 have HC2 : Hid (∀ w : World, Calls Tryz.prog 45 #[.int .u64 (q : Int)] w fun r w' => ∃ ao cap, r = .returned (.slice ao Y2.length cap) /\ Ow 5 w' ao Y2.length cap Y2 /\ Still w w') := hid (fun w => by
  refine (rform_any q HI.out.iq w).mono ?_
  rw [eY2]
  rintro r w' ⟨ao, cap, h1, h2, h3, _⟩
  exact ⟨ao, cap, h1, h2, h3⟩)
 have HC3 : Hid (∀ u ao cap X, X.length <= 300000 -> Ow 5 u ao X.length cap X -> Calls Tryz.prog 44 #[.slice ao X.length cap, .slice (some ⟨u.heap.size, 0, none⟩) 2 2] (u.alloc (.cells #[.int .i64 C, .int .i64 R] 3)) fun e w' => ∃ ao' cap', e = .returned (.slice ao' (X ++ Y3).length cap') /\ Oz u w' ao ao' cap' (X ++ Y3)) := hid (fun u ao cap X hX ho => by
  have h := rlit_any ao cap X [C, R] (fun n hn => by simp only [List.mem_cons, List.not_mem_nil, or_false] at hn; rcases hn with rfl | rfl; exact HI.out.iC; exact HI.out.iR) (by simp only [List.length_cons, List.length_nil]; omega) u ho
  rw [eY3] at h
  exact h)
 have HC4 : Hid (∀ u, Calls Tryz.prog 46 #[.slice (some ⟨u.heap.size, 0, none⟩) s.size (grownCap u s.size 0 5)] (Lib.bytesWorld u 5 s) fun r w' => ∃ ao cap, r = .returned (.slice ao Y4.length cap) /\ Ow 5 w' ao Y4.length cap Y4 /\ Still u w') := hid (fun u => by
  have hz := HZ.out.2.2.2.2.2.1
  refine (counted_y (some ⟨u.heap.size, 0, none⟩) s.size (grownCap u s.size 0 5) s.data.toList (Lib.bytesWorld u 5 s) (bytes_rd u 5 s (by omega)) (by omega)).mono ?_
  rw [eY4]
  rintro r w' ⟨ao, cap, h1, h2, h3⟩
  exact ⟨ao, cap, h1, h2, (bytes_still u 5 s).trans h3⟩)
 have HC5 : Hid (∀ u ao cap X, X.length <= 300000 -> Ow 5 u ao X.length cap X -> Calls Tryz.prog 47 #[.slice ao X.length cap, .int .i64 (ln : Int)] u fun e w' => ∃ ao' cap', e = .returned (.slice ao' (X ++ Y5).length cap') /\ Oz u w' ao ao' cap' (X ++ Y5)) := hid (fun u ao cap X hX ho => by
  have hz := HZ.out.2.2.2.2.2.2
  have h := rcount_any ao cap X ln (by omega) (by omega) u ho
  rw [eY5] at h
  exact h)
 have HC6 : Hid (∀ u ao cap X, X.length <= 300000 -> Ow 5 u ao X.length cap X -> Still w u -> (∀ a, ao = some a -> w.heap.size <= a.block) -> Calls Tryz.prog 44 #[.slice ao X.length cap, .slice lo ln lc] u fun e w' => ∃ ao' cap', e = .returned (.slice ao' (X ++ Y6).length cap') /\ Oz u w' ao ao' cap' (X ++ Y6)) := hid (fun u ao cap X hX ho hu ha => by
  have h := rnum_any ao cap X lo ln lc l HI.out.il (by have := HI.out.iz; omega) u ho (hr.still hu) (fun a b h1 h0 hb e => by
   have h3 := hr.lt h0 a h1
   have h4 := ha b hb
   omega)
  rw [eY6] at h
  exact h)
 rw [eY1, eY2, eY3, eY4, eY5, eY6] at HSs
 rw [eY1, eY2, eY3, eY4, eY5] at HZ
 clear eY1 eY2 eY3 eY4 eY5 eY6
 have A0 := Still.alloc w (.cells #[.int .i64 p0, .int .u64 (q : Int), .int .i64 C, .int .i64 R, .string s, .slice lo ln lc] 37)
 have hx0 := heap_alloc_new w (.cells #[.int .i64 p0, .int .u64 (q : Int), .int .i64 C, .int .i64 R, .string s, .slice lo ln lc] 37)
 have HC := hid (hck _ A0)
 obtain ⟨U, eU⟩ : ∃ U, w.alloc (.cells #[.int .i64 p0, .int .u64 (q : Int), .int .i64 C, .int .i64 R, .string s, .slice lo ln lc] 37) = U := ⟨_, rfl⟩
 obtain ⟨g, eg⟩ : ∃ g, w.heap.size = g := ⟨_, rfl⟩
 rw [eU] at hx0 A0 HC
 have HGz := hid eg
 rw [eg] at hx0
 have HA := hid A0
 have HX0 := hid hx0
 have k0 := cell_of_row _ _ 0 _ _ _ hx0
 have k1 := cell_of_row _ _ 1 _ _ _ hx0
 have k2 := cell_of_row _ _ 2 _ _ _ hx0
 have k3 := cell_of_row _ _ 3 _ _ _ hx0
 have k4 := cell_of_row _ _ 4 _ _ _ hx0
 have k5 := cell_of_row _ _ 5 _ _ _ hx0
 simp only [List.getElem?_toArray, List.getElem?_cons_zero, List.getElem?_cons_succ] at k0 k1 k2 k3 k4 k5
 clear A0 hx0 hh hr hck
 go_enter Tryz.func18, Tryz.ntmps18
 go_wp2_with fail
 refine HC.out.mono ?_
 rintro e Z ⟨he, h1⟩
 rw [he]
 have HS1 := hid (HA.out.trans h1)
 have HX1 := hid (h1.kept_still HX0.out)
 clear he HC h1 k0 k1 k2 k3 k4 k5 eU eg HX0 HA
 have k0 := cell_of_row _ _ 0 _ _ _ HX1.out
 have k1 := cell_of_row _ _ 1 _ _ _ HX1.out
 have k2 := cell_of_row _ _ 2 _ _ _ HX1.out
 have k3 := cell_of_row _ _ 3 _ _ _ HX1.out
 have k4 := cell_of_row _ _ 4 _ _ _ HX1.out
 have k5 := cell_of_row _ _ 5 _ _ _ HX1.out
 simp only [List.getElem?_toArray, List.getElem?_cons_zero, List.getElem?_cons_succ] at k0 k1 k2 k3 k4 k5
 go_wp2_with fail
 refine (HC1.out Z).mono ?_
 rintro e w2 ⟨ao2, cp2, he, h2⟩
 rw [he]
 have HD2 : Hid (Dz Z w2 ao2 cp2 Y1) := hid ((⟨Ow.empty _ _, Fr.refl _ _, fun a h => by cases h⟩ : Dz Z Z none 0 []).on h2)
 clear he h2 HC1 k0 k1 k2 k3 k4 k5
 have k0 := cell_of_row _ _ 0 _ _ _ (HD2.out.s.kept_still HX1.out)
 have k1 := cell_of_row _ _ 1 _ _ _ (HD2.out.s.kept_still HX1.out)
 have k2 := cell_of_row _ _ 2 _ _ _ (HD2.out.s.kept_still HX1.out)
 have k3 := cell_of_row _ _ 3 _ _ _ (HD2.out.s.kept_still HX1.out)
 have k4 := cell_of_row _ _ 4 _ _ _ (HD2.out.s.kept_still HX1.out)
 have k5 := cell_of_row _ _ 5 _ _ _ (HD2.out.s.kept_still HX1.out)
 simp only [List.getElem?_toArray, List.getElem?_cons_zero, List.getElem?_cons_succ] at k0 k1 k2 k3 k4 k5
 go_wp2_with fail
 refine (HC2.out _).mono ?_
 rintro e w3 ⟨fo, d, he, ho3, h3⟩
 rw [he]
 have HD3 := hid (HD2.out.still h3)
 have HO3 := hid ho3.rd
 clear he ho3 h3 HC2 HD2 k0 k1 k2 k3 k4 k5
 have k0 := cell_of_row _ _ 0 _ _ _ (HD3.out.s.kept_still HX1.out)
 have k1 := cell_of_row _ _ 1 _ _ _ (HD3.out.s.kept_still HX1.out)
 have k2 := cell_of_row _ _ 2 _ _ _ (HD3.out.s.kept_still HX1.out)
 have k3 := cell_of_row _ _ 3 _ _ _ (HD3.out.s.kept_still HX1.out)
 have k4 := cell_of_row _ _ 4 _ _ _ (HD3.out.s.kept_still HX1.out)
 have k5 := cell_of_row _ _ 5 _ _ _ (HD3.out.s.kept_still HX1.out)
 simp only [List.getElem?_toArray, List.getElem?_cons_zero, List.getElem?_cons_succ] at k0 k1 k2 k3 k4 k5
 go_wp2_with (
  at_builtin
  refine wpList_app _ rfl _ _ 38 rfl 5 i0 Tryz.underlying38 hi0 hz0 hs10 hb10 ao2 fo Y1.length cp2 Y2.length d Y1 Y2 rfl rfl HD3.out.o HO3.out (by have := HZ.out; omega) ?_
  intro ao4 cp4 w4 ho4 hf4 hn4 _
  have HD4 := hid (HD3.out.on (Oz.app rfl rfl ho4 hf4 hn4))
  rw [show Y1.length + Y2.length = (Y1 ++ Y2).length from List.length_append.symm]
  have HL4 : Hid ((Y1 ++ Y2).length <= 20) := hid (by have := HZ.out; rw [List.length_append]; omega)
  obtain ⟨X4, eX4⟩ : ∃ X, Y1 ++ Y2 = X := ⟨_, rfl⟩
  rw [eX4] at HD4 HSs HL4 ⊢
  clear ho4 hf4 hn4 HD3 HO3 eX4 k0 k1 k2 k3 k4 k5
  have k0 := cell_of_row _ _ 0 _ _ _ (HD4.out.s.kept_still HX1.out)
  have k1 := cell_of_row _ _ 1 _ _ _ (HD4.out.s.kept_still HX1.out)
  have k2 := cell_of_row _ _ 2 _ _ _ (HD4.out.s.kept_still HX1.out)
  have k3 := cell_of_row _ _ 3 _ _ _ (HD4.out.s.kept_still HX1.out)
  have k4 := cell_of_row _ _ 4 _ _ _ (HD4.out.s.kept_still HX1.out)
  have k5 := cell_of_row _ _ 5 _ _ _ (HD4.out.s.kept_still HX1.out)
  simp only [List.getElem?_toArray, List.getElem?_cons_zero, List.getElem?_cons_succ] at k0 k1 k2 k3 k4 k5)
 refine (HC3.out _ ao4 cp4 X4 (by have := HL4.out; omega) HD4.out.o).mono ?_
 rintro e w5 ⟨ao5, cp5, he, h5⟩
 rw [he]
 have HD5 := hid (HD4.out.on h5)
 have HL5 : Hid ((X4 ++ Y3).length <= 40) := hid (by have := HZ.out; have := HL4.out; rw [List.length_append]; omega)
 obtain ⟨X5, eX5⟩ : ∃ X, X4 ++ Y3 = X := ⟨_, rfl⟩
 rw [eX5] at HD5 HSs HL5 ⊢
 clear he h5 HC3 HD4 HL4 eX5 k0 k1 k2 k3 k4 k5
 have k0 := cell_of_row _ _ 0 _ _ _ (HD5.out.s.kept_still HX1.out)
 have k1 := cell_of_row _ _ 1 _ _ _ (HD5.out.s.kept_still HX1.out)
 have k2 := cell_of_row _ _ 2 _ _ _ (HD5.out.s.kept_still HX1.out)
 have k3 := cell_of_row _ _ 3 _ _ _ (HD5.out.s.kept_still HX1.out)
 have k4 := cell_of_row _ _ 4 _ _ _ (HD5.out.s.kept_still HX1.out)
 have k5 := cell_of_row _ _ 5 _ _ _ (HD5.out.s.kept_still HX1.out)
 simp only [List.getElem?_toArray, List.getElem?_cons_zero, List.getElem?_cons_succ] at k0 k1 k2 k3 k4 k5
 go_wp2_with fail
 refine (HC4.out _).mono ?_
 rintro e w7 ⟨fo7, d7, he, ho7, h7⟩
 rw [he]
 have HD7 := hid (HD5.out.still h7)
 have HO7 := hid ho7.rd
 clear he ho7 h7 HC4 HD5 k0 k1 k2 k3 k4 k5 hcv
 have k0 := cell_of_row _ _ 0 _ _ _ (HD7.out.s.kept_still HX1.out)
 have k1 := cell_of_row _ _ 1 _ _ _ (HD7.out.s.kept_still HX1.out)
 have k2 := cell_of_row _ _ 2 _ _ _ (HD7.out.s.kept_still HX1.out)
 have k3 := cell_of_row _ _ 3 _ _ _ (HD7.out.s.kept_still HX1.out)
 have k4 := cell_of_row _ _ 4 _ _ _ (HD7.out.s.kept_still HX1.out)
 have k5 := cell_of_row _ _ 5 _ _ _ (HD7.out.s.kept_still HX1.out)
 simp only [List.getElem?_toArray, List.getElem?_cons_zero, List.getElem?_cons_succ] at k0 k1 k2 k3 k4 k5
 go_wp2_with (
  at_builtin
  refine wpList_app _ rfl _ _ 38 rfl 5 i0 Tryz.underlying38 hi0 hz0 hs10 hb10 ao5 fo7 X5.length cp5 Y4.length d7 X5 Y4 rfl rfl HD7.out.o HO7.out (by have := HZ.out; have := HL5.out; omega) ?_
  intro ao8 cp8 w8 ho8 hf8 hn8 _
  have HD8 := hid (HD7.out.on (Oz.app rfl rfl ho8 hf8 hn8))
  rw [show X5.length + Y4.length = (X5 ++ Y4).length from List.length_append.symm]
  have HL8 : Hid ((X5 ++ Y4).length <= 200000) := hid (by have := HZ.out; have := HL5.out; rw [List.length_append]; omega)
  obtain ⟨X8, eX8⟩ : ∃ X, X5 ++ Y4 = X := ⟨_, rfl⟩
  rw [eX8] at HD8 HSs HL8 ⊢
  clear ho8 hf8 hn8 HD7 HO7 HL5 eX8 k0 k1 k2 k3 k4 k5
  have k0 := cell_of_row _ _ 0 _ _ _ (HD8.out.s.kept_still HX1.out)
  have k1 := cell_of_row _ _ 1 _ _ _ (HD8.out.s.kept_still HX1.out)
  have k2 := cell_of_row _ _ 2 _ _ _ (HD8.out.s.kept_still HX1.out)
  have k3 := cell_of_row _ _ 3 _ _ _ (HD8.out.s.kept_still HX1.out)
  have k4 := cell_of_row _ _ 4 _ _ _ (HD8.out.s.kept_still HX1.out)
  have k5 := cell_of_row _ _ 5 _ _ _ (HD8.out.s.kept_still HX1.out)
  simp only [List.getElem?_toArray, List.getElem?_cons_zero, List.getElem?_cons_succ] at k0 k1 k2 k3 k4 k5)
 refine (HC5.out _ ao8 cp8 X8 (by have := HL8.out; omega) HD8.out.o).mono ?_
 rintro e w9 ⟨ao9, cp9, he, h9⟩
 rw [he]
 have HD9 := hid (HD8.out.on h9)
 have HL9 : Hid ((X8 ++ Y5).length <= 200010) := hid (by have := HZ.out; have := HL8.out; rw [List.length_append]; omega)
 obtain ⟨X9, eX9⟩ : ∃ X, X8 ++ Y5 = X := ⟨_, rfl⟩
 rw [eX9] at HD9 HSs HL9 ⊢
 clear he h9 HC5 HD8 HL8 eX9 k0 k1 k2 k3 k4 k5
 have k0 := cell_of_row _ _ 0 _ _ _ (HD9.out.s.kept_still HX1.out)
 have k1 := cell_of_row _ _ 1 _ _ _ (HD9.out.s.kept_still HX1.out)
 have k2 := cell_of_row _ _ 2 _ _ _ (HD9.out.s.kept_still HX1.out)
 have k3 := cell_of_row _ _ 3 _ _ _ (HD9.out.s.kept_still HX1.out)
 have k4 := cell_of_row _ _ 4 _ _ _ (HD9.out.s.kept_still HX1.out)
 have k5 := cell_of_row _ _ 5 _ _ _ (HD9.out.s.kept_still HX1.out)
 simp only [List.getElem?_toArray, List.getElem?_cons_zero, List.getElem?_cons_succ] at k0 k1 k2 k3 k4 k5
 go_wp2_with fail
 refine (HC6.out _ ao9 cp9 X9 (by have := HL9.out; omega) HD9.out.o (HS1.out.trans HD9.out.s) (fun a ha => Nat.le_trans HS1.out.size (HD9.out.n a ha))).mono ?_
 rintro e w10 ⟨ao10, cp10, he, h10⟩
 rw [he]
 have HD10 := hid (HD9.out.on h10)
 obtain ⟨X10, eX10⟩ : ∃ X, X9 ++ Y6 = X := ⟨_, rfl⟩
 rw [eX10] at HD10 HSs ⊢
 have HC := hid (rdof_any ao10 X10.length cp10 X10 w10 HD10.out.o.rd)
 clear he h10 HD9 eX10 k0 k1 k2 k3 k4 k5 HC6 HL9
 go_wp2_with fail
 refine HC.out.mono ?_
 rintro e w11 ⟨he, h11⟩
 rw [he]
 have HS11 := hid ((HS1.out.trans HD10.out.s).trans h11)
 obtain rfl := HSs.out
 clear he h11 HC
 go_wp2_with fail
 go_ret2
 exact ⟨rfl, HS11.out⟩
set_option maxHeartbeats 4000000 in
theorem rses_no (p0 : Int) (q : Nat) (C R : Int) (s : ByteArray) (lo : Option Addr) (ln lc : Nat) (x : Int) (hx : x ≠ 0) (w : World)
  (hck : ∀ u, Still w u -> Calls Tryz.prog 43 #[.agg #[.int .i64 p0, .int .u64 (q : Int), .int .i64 C, .int .i64 R, .string s, .slice lo ln lc]] u fun e w' => e = .returned (.int .i64 x) /\ Still u w') :
  Calls Tryz.prog 18 #[.agg #[.int .i64 p0, .int .u64 (q : Int), .int .i64 C, .int .i64 R, .string s, .slice lo ln lc]] w fun e w' => e = .returned (.tuple #[.int .u64 0, .int .i64 x]) /\ Still w w' := by
 have hx' := chain0 hx
 have A0 := Still.alloc w (.cells #[.int .i64 p0, .int .u64 (q : Int), .int .i64 C, .int .i64 R, .string s, .slice lo ln lc] 37)
 have hx0 := heap_alloc_new w (.cells #[.int .i64 p0, .int .u64 (q : Int), .int .i64 C, .int .i64 R, .string s, .slice lo ln lc] 37)
 have HC := hid (hck _ A0)
 obtain ⟨U, eU⟩ : ∃ U, w.alloc (.cells #[.int .i64 p0, .int .u64 (q : Int), .int .i64 C, .int .i64 R, .string s, .slice lo ln lc] 37) = U := ⟨_, rfl⟩
 obtain ⟨g, eg⟩ : ∃ g, w.heap.size = g := ⟨_, rfl⟩
 rw [eU] at hx0 A0 HC
 rw [eg] at hx0
 have HA := hid A0
 have k0 := cell_of_row _ _ 0 _ _ _ hx0
 have k1 := cell_of_row _ _ 1 _ _ _ hx0
 have k2 := cell_of_row _ _ 2 _ _ _ hx0
 have k3 := cell_of_row _ _ 3 _ _ _ hx0
 have k4 := cell_of_row _ _ 4 _ _ _ hx0
 have k5 := cell_of_row _ _ 5 _ _ _ hx0
 simp only [List.getElem?_toArray, List.getElem?_cons_zero, List.getElem?_cons_succ] at k0 k1 k2 k3 k4 k5
 clear A0 hx0 hck hx
 go_enter Tryz.func18, Tryz.ntmps18
 go_wp2_with fail
 refine HC.out.mono ?_
 rintro e w1 ⟨he, h1⟩
 rw [he]
 have HS1 := hid (HA.out.trans h1)
 clear he HC h1 k0 k1 k2 k3 k4 k5 eU eg
 go_wp2_with fail
 go_ret2
 exact ⟨rfl, HS1.out⟩
set_option maxHeartbeats 8000000 in
theorem rdig_yes (p0 : Int) (q : Nat) (C R : Int) (s : ByteArray) (lo : Option Addr) (ln lc : Nat) (l : List Int) (hc : InC p0 q C R s l) (W : Wd) (v : Value) (hh : InW W) (hb : 121 * W.ms.length + 40 * W.cs.length + 80 * W.hs.length + 30 * W.ks.length + 50 <= 1000000) (w : World) (hr : RdI w lo ln lc l) (hv : RdW w v W)
  (hcc : ∀ u, Still w u -> Calls Tryz.prog 43 #[.agg (cfcs p0 q C R s lo ln lc)] u fun e w' => e = .returned (.int .i64 0) /\ Still u w')
  (hck : ∀ u, Still w u -> Calls Tryz.prog 34 #[.agg (cfcs p0 q C R s lo ln lc), v] u fun e w' => e = .returned (.int .i64 0) /\ Still u w') :
  Calls Tryz.prog 16 #[.agg (cfcs p0 q C R s lo ln lc), v] w fun e w' => e = .returned (.tuple #[.int .u64 (chainI (ofI (ssB p0 q C R s l)) (ofI (wdB W))), .int .i64 0]) /\ Still w w' := by
 have HV := hid hv
 obtain ⟨_, _, _, _, rfl, ⟨ao, c1, rfl, _, _, _⟩, ⟨bo, c2, rfl, _, _, _⟩, ⟨co, c3, rfl, _, _, _⟩, ⟨so, c4, rfl, _, _, _⟩⟩ := hv
 have HSn := hid (fun u (hu : Still w u) => rses_yes p0 q C R s lo ln lc l hc u (hr.still hu) (fun u' hu' => hcc u' (hu.trans hu')))
 have HWb := hid (fun u (hu : Still w u) => rbytes_any W _ hh hb u (HV.out.still hu))
 obtain ⟨n1, e1⟩ : ∃ n, W.ms.length = n := ⟨_, rfl⟩
 obtain ⟨n2, e2⟩ : ∃ n, W.cs.length = n := ⟨_, rfl⟩
 obtain ⟨n3, e3⟩ : ∃ n, W.hs.length = n := ⟨_, rfl⟩
 obtain ⟨n4, e4⟩ : ∃ n, W.ks.length = n := ⟨_, rfl⟩
 obtain ⟨fr, efr⟩ : ∃ n, W.fr = n := ⟨_, rfl⟩
 obtain ⟨nx, enx⟩ : ∃ n, W.nx = n := ⟨_, rfl⟩
 rw [e1, e2, e3, e4, efr, enx] at HWb
 rw [e1, e2, e3, e4, efr, enx] at hck
 rw [e1, e2, e3, e4, efr, enx]
 obtain ⟨X, eX⟩ : ∃ X, wdB W = X := ⟨_, rfl⟩
 obtain ⟨Z, eZ⟩ : ∃ Z, ofI (ssB p0 q C R s l) = Z := ⟨_, rfl⟩
 rw [eX] at HWb ⊢
 rw [eZ] at HSn ⊢
 have B0 := Bdg.new w (cfcs p0 q C R s lo ln lc) fr nx (.slice ao n1 c1) (.slice bo n2 c2) (.slice co n3 c3) (.slice so n4 c4)
 obtain ⟨U, eU⟩ : ∃ U, (w.alloc (.cells (cfcs p0 q C R s lo ln lc) 37)).alloc (.cells (wdcs fr nx (.slice ao n1 c1) (.slice bo n2 c2) (.slice co n3 c3) (.slice so n4 c4)) 27) = U := ⟨_, rfl⟩
 obtain ⟨g, eg⟩ : ∃ g, w.heap.size = g := ⟨_, rfl⟩
 rw [eU, eg] at B0
 have HC := hid (hck U B0.s)
 have HB := hid B0
 obtain ⟨⟨d0, d1, d2, d3, d4, d5⟩, m0, m1, m2, m3, m4, m5⟩ := B0.i
 clear B0 hck hcc hr hb hh hc e1 e2 e3 e4 efr enx eX eZ HV
 go_enter Tryz.func16, Tryz.ntmps16
 go_wp2_with fail
 refine HC.out.mono ?_
 rintro e w1 ⟨he, h1⟩
 rw [he]
 have HB1 := hid (HB.out.still h1)
 clear he h1 HC HB d0 d1 d2 d3 d4 d5 m0 m1 m2 m3 m4 m5 eU eg
 obtain ⟨⟨d0, d1, d2, d3, d4, d5⟩, m0, m1, m2, m3, m4, m5⟩ := HB1.out.i
 go_wp2_with fail
 refine (HSn.out _ HB1.out.s).mono ?_
 rintro e w2 ⟨he, h2⟩
 rw [he]
 have HB2 := hid (HB1.out.still h2)
 clear he h2 HSn HB1 d0 d1 d2 d3 d4 d5 m0 m1 m2 m3 m4 m5
 obtain ⟨⟨d0, d1, d2, d3, d4, d5⟩, m0, m1, m2, m3, m4, m5⟩ := HB2.out.i
 go_wp2_with fail
 refine (HWb.out _ HB2.out.s).mono ?_
 rintro e w3 ⟨ao3, cp3, he, ho3, h3, _⟩
 rw [he]
 have HC := hid (rdof_any ao3 X.length cp3 X w3 ho3.rd)
 have HS3 := hid (HB2.out.s.trans h3)
 clear he ho3 h3 HWb HB2 d0 d1 d2 d3 d4 d5 m0 m1 m2 m3 m4 m5
 go_wp2_with fail
 refine HC.out.mono ?_
 rintro e w4 ⟨he, h4⟩
 rw [he]
 have HS4 := hid (HS3.out.trans h4)
 clear he h4 HC HS3
 have HC := hid (rchain_any Z (ofI X) (by obtain ⟨m, hm, em⟩ := ofI_in X; rw [em]; omega) (by obtain ⟨m, hm, em⟩ := ofI_in X; rw [em]; omega) w4)
 go_wp2_with fail
 refine HC.out.mono ?_
 rintro e w5 ⟨he, h5⟩
 rw [he, h5]
 clear he h5 HC
 go_wp2_with fail
 go_ret2
 exact ⟨rfl, HS4.out⟩
set_option maxHeartbeats 4000000 in
theorem rdig_no (p0 : Int) (q : Nat) (C R : Int) (s : ByteArray) (lo : Option Addr) (ln lc : Nat) (x : Int) (hx : x ≠ 0) (fr nx : Int) (ao bo co so : Option Addr) (n1 n2 n3 n4 c1 c2 c3 c4 : Nat) (w : World)
  (hck : ∀ u, Still w u -> Calls Tryz.prog 34 #[.agg (cfcs p0 q C R s lo ln lc), .agg (wdcs fr nx (.slice ao n1 c1) (.slice bo n2 c2) (.slice co n3 c3) (.slice so n4 c4))] u fun e w' => e = .returned (.int .i64 x) /\ Still u w') :
  Calls Tryz.prog 16 #[.agg (cfcs p0 q C R s lo ln lc), .agg (wdcs fr nx (.slice ao n1 c1) (.slice bo n2 c2) (.slice co n3 c3) (.slice so n4 c4))] w fun e w' => e = .returned (.tuple #[.int .u64 0, .int .i64 x]) /\ Still w w' := by
 have hx' := chain0 hx
 have B0 := Bdg.new w (cfcs p0 q C R s lo ln lc) fr nx (.slice ao n1 c1) (.slice bo n2 c2) (.slice co n3 c3) (.slice so n4 c4)
 obtain ⟨U, eU⟩ : ∃ U, (w.alloc (.cells (cfcs p0 q C R s lo ln lc) 37)).alloc (.cells (wdcs fr nx (.slice ao n1 c1) (.slice bo n2 c2) (.slice co n3 c3) (.slice so n4 c4)) 27) = U := ⟨_, rfl⟩
 obtain ⟨g, eg⟩ : ∃ g, w.heap.size = g := ⟨_, rfl⟩
 rw [eU, eg] at B0
 have HC := hid (hck U B0.s)
 have HB := hid B0
 obtain ⟨⟨d0, d1, d2, d3, d4, d5⟩, m0, m1, m2, m3, m4, m5⟩ := B0.i
 clear B0 hck hx
 go_enter Tryz.func16, Tryz.ntmps16
 go_wp2_with fail
 refine HC.out.mono ?_
 rintro e w1 ⟨he, h1⟩
 rw [he]
 have HB1 := hid (HB.out.still h1)
 clear he h1 HC HB d0 d1 d2 d3 d4 d5 m0 m1 m2 m3 m4 m5 eU eg
 go_wp2_with fail
 go_ret2
 exact ⟨rfl, HB1.out.s⟩
end Go.Proofs.YtkgbmefaphhcnaaGreatDoor
