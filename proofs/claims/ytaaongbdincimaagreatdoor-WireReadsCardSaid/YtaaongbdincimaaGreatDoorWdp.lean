/- The document's Open and Encode: the whole. -/
import Derived.Test.YtaaongbdincimaaGreatDoorWdo
namespace Go.Proofs.YtaaongbdincimaaGreatDoor
open Go.RowKit
open Wp Vp
set_option maxRecDepth 100000
set_option linter.unusedVariables false
set_option linter.unusedSimpArgs false

theorem opr_gv (a b c : Int) (i : Nat) (h : i < 2) : (if i = 0 then a else if i = 1 then b else c) = gv a b c i := by
  rcases (show i = 0 ∨ i = 1 by omega) with rfl | rfl <;> rfl
theorem Nw.down {w0 w1 w : World} {ao : Option Addr} {n cap : Nat} {bs : List UInt8} (h : Nw w1 w ao n cap bs) (hs : Still w0 w1) : Nw w0 w ao n cap bs := ⟨h.o, hs.trans h.s, fun a ha => Nat.le_trans hs.size (h.a a ha)⟩
theorem Nw.len {w0 w : World} {ao : Option Addr} {n cap : Nat} {bs : List UInt8} (h : Nw w0 w ao n cap bs) : bs.length = n := h.o.rd.len
theorem Rd.two16 (wr : World) (b c : UInt8) (x y : Int) (hx : x = (b.toNat : Int)) (hy : y = (c.toNat : Int)) : Ow 5 (wr.alloc (.cells #[.int .u8 x, .int .u8 y] 5)) (some ⟨wr.heap.size, 0, none⟩) 2 2 [b, c] :=
  Ow.fresh wr _ 2 2 [b, c] rfl (Nat.le_refl _) (by unfold maxLen; omega) rfl (fun j hj => by
    rcases (show j = 0 ∨ j = 1 by simp at hj; omega) with rfl | rfl
    · rw [hx]; rfl
    · rw [hy]; rfl)
set_option maxHeartbeats 4000000 in
theorem ropen2_any (s : Nat) (hs : s < 18446744073709551616) (f t : Int) (hwf : IntKind.u8.wrap f = f) (hwt : IntKind.u8.wrap t = t) (hf : 0 ≤ f ∧ f ≤ 5) (ht : 0 ≤ t ∧ t ≤ 5) (ak : Nat) (hak : ak ≤ 1099511627776) (co : Option Addr) (cn cp : Nat) (w : World) :
    Calls Tryz.prog 25 #[dgv ⟨2, (s : Int), f, t, 0, 0, [], (ak : Int)⟩ co cn cp] w fun e w' => ∃ ao n cap, e = .returned (.slice ao n cap) ∧ Nw w w' ao n cap (opnB ⟨2, (s : Int), f, t, 0, 0, [], (ak : Int)⟩) := by
  obtain ⟨i0, hi0, hz0, hs10, hb10⟩ := info_parts info_u8
  have A0 := Still.alloc w (.cells (dgc ⟨2, (s : Int), f, t, 0, 0, [], (ak : Int)⟩ co cn cp) 25)
  have hb0 := newDg_b w ⟨2, (s : Int), f, t, 0, 0, [], (ak : Int)⟩ co cn cp
  obtain ⟨W, eW⟩ : ∃ W, w.alloc (.cells (dgc ⟨2, (s : Int), f, t, 0, 0, [], (ak : Int)⟩ co cn cp) 25) = W := ⟨_, rfl⟩
  obtain ⟨g, eg⟩ : ∃ g, w.heap.size = g := ⟨_, rfl⟩
  unfold newDg at hb0
  rw [eW] at A0 hb0
  rw [eg] at hb0
  have HA := hid A0
  have HB := hid hb0
  have HG := hid eg
  have HWs : Hid (g < W.heap.size) := hid (block_lt hb0)
  obtain ⟨m0, m1, m2, m3, m4, m5, m6, m7, _⟩ := HB.out.cells
  dsimp only at m0 m1 m2 m3 m4 m5 m6 m7
  have A1 := Still.alloc W (.cells #[.int .u8 101, .int .u8 2] 5)
  have HN1 : Hid (Nw W (W.alloc (.cells #[.int .u8 101, .int .u8 2] 5)) (some ⟨W.heap.size, 0, none⟩) 2 2 [101, by8 2]) := hid ⟨Rd.two16 W 101 (by8 2) 101 2 rfl rfl, A1, fun a ha => by cases ha; exact Nat.le_refl _⟩
  have HE := hid (reight_any s hs (W.alloc (.cells #[.int .u8 101, .int .u8 2] 5)))
  have HB1 := hid (hb0.still A1)
  obtain ⟨p0, p1, p2, p3, p4, p5, p6, p7, _⟩ := HB1.out.cells
  dsimp only at p0 p1 p2 p3 p4 p5 p6 p7
  clear A0 hb0 A1
  go_enter Tryz.func25, Tryz.ntmps25
  go_wp2_with fail
  refine HE.out.mono ?_
  rintro e w2 ⟨ao2, cap2, he, ho2, h2, _⟩
  rw [he]
  have HN2 := hid (HN1.out.still h2)
  have HB2 := hid (HB1.out.still h2)
  have HR2 := hid ho2.rd
  clear he ho2 h2 HE HN1 HB1 p0 p1 p2 p3 p4 p5 p6 p7
  clear m0 m1 m2 m3 m4 m5 m6 m7
  go_upto_region 3 with (at_builtin; refine wpList_app _ rfl _ _ 31 rfl 5 i0 Tryz.underlying31 hi0 hz0 hs10 hb10 (some ⟨W.heap.size, 0, none⟩) ao2 2 2 8 cap2 [101, by8 2] (Wp.sumF 8 s) rfl rfl HN2.out.o HR2.out (by omega) ?_; intro ao3 cap3 w3 ho3 hf3 hn3 _)
  have HN3 := hid (HN2.out.app ho3 hf3 hn3)
  have HB3 := hid (HB.out.still HN3.out.s)
  clear ho3 hf3 hn3 HN2 HR2 HB2
  obtain ⟨m0, m1, m2, m3, m4, m5, m6, m7, _⟩ := HB3.out.cells
  dsimp only at m0 m1 m2 m3 m4 m5 m6 m7
  have A3 := Still.alloc w3 (.cells #[.int .u8 f, .int .u8 t] 5)
  have HO3 := hid (Rd.two16 w3 (by8 f) (by8 t) f t (by8_to (by omega) (by omega)).symm (by8_to (by omega) (by omega)).symm)
  have HN3a := hid (HN3.out.still A3)
  have HB3a := hid (HB3.out.still A3)
  clear A3
  go_upto_region 4 with (at_builtin; refine wpList_app _ rfl _ _ 31 rfl 5 i0 Tryz.underlying31 hi0 hz0 hs10 hb10 ao3 (some ⟨w3.heap.size, 0, none⟩) 10 cap3 2 2 ([101, by8 2] ++ Wp.sumF 8 s) [by8 f, by8 t] rfl rfl HN3a.out.o HO3.out.rd (by omega) ?_; intro ao4 cap4 w4 ho4 hf4 hn4 _)
  have HN4 := hid (HN3a.out.app ho4 hf4 hn4)
  have HB4 := hid (HB.out.still HN4.out.s)
  clear ho4 hf4 hn4 HN3 HN3a HB3 HB3a HO3
  clear m0 m1 m2 m3 m4 m5 m6 m7
  obtain ⟨m0, m1, m2, m3, m4, m5, m6, m7, _⟩ := HB4.out.cells
  dsimp only at m0 m1 m2 m3 m4 m5 m6 m7
  have HC := hid (rnumber16_any W ao4 12 cap4 _ ak hak (by omega) w4 HN4.out)
  go_wp2_with fail
  refine HC.out.mono ?_
  rintro e w5 ⟨ao5, n5, cap5, he, hn5, _⟩
  rw [he]
  have HF : Hid (Nw w w5 ao5 n5 cap5 (opnB ⟨2, (s : Int), f, t, 0, 0, [], (ak : Int)⟩)) := hid (by
    have e1 : ([101, by8 2] ++ Wp.sumF 8 s ++ [by8 f, by8 t]) ++ Cp.form ak = opnB ⟨2, (s : Int), f, t, 0, 0, [], (ak : Int)⟩ := by
      unfold opnB hdB tnB
      dsimp only
      rw [if_neg (by decide)]
      simp
    rw [← e1]
    exact hn5.down HA.out)
  clear he hn5 HC
  go_wp2_with fail
  go_ret
  exact ⟨ao5, n5, cap5, rfl, HF.out⟩
set_option maxHeartbeats 8000000 in
theorem ropen1_any (s : Nat) (hs : s < 18446744073709551616) (f t : Int) (hwf : IntKind.u8.wrap f = f) (hwt : IntKind.u8.wrap t = t) (hf : 0 ≤ f ∧ f ≤ 5) (ht : 0 ≤ t ∧ t ≤ 5) (ak : Nat) (hak : ak ≤ 1099511627776) (co : Option Addr) (cn cp : Nat) (mk fi : Nat) (cs : List Cc) (hm : 0 ≤ (mk : Int) ∧ (mk : Int) ≤ 1099511627776) (hfi : fi ≤ 1099511627776) (hall : ∀ x ∈ cs, (1 ≤ x.fr ∧ x.fr ≤ 1099511627776) ∧ chkO x.v x.a x.b x.c = 0) (hcn : cn ≤ 336) (w : World) (hO : OTab w) (hr : RdG KCc w co cn cs) :
    Calls Tryz.prog 25 #[dgv ⟨1, (s : Int), f, t, (mk : Int), (fi : Int), cs, (ak : Int)⟩ co cn cp] w fun e w' => ∃ ao n cap, e = .returned (.slice ao n cap) ∧ Nw w w' ao n cap (opnB ⟨1, (s : Int), f, t, (mk : Int), (fi : Int), cs, (ak : Int)⟩) := by
  have HR0 := hid (hr.still (Still.alloc w (.cells (dgc ⟨1, (s : Int), f, t, (mk : Int), (fi : Int), cs, (ak : Int)⟩ co cn cp) 25)))
  have HT0 := hid (hO.still (Still.alloc w (.cells (dgc ⟨1, (s : Int), f, t, (mk : Int), (fi : Int), cs, (ak : Int)⟩ co cn cp) 25)))
  have HLn := hid hr.1
  have HAl := hid hall
  clear hr hO hall
  obtain ⟨i0, hi0, hz0, hs10, hb10⟩ := info_parts info_u8
  have A0 := Still.alloc w (.cells (dgc ⟨1, (s : Int), f, t, (mk : Int), (fi : Int), cs, (ak : Int)⟩ co cn cp) 25)
  have hb0 := newDg_b w ⟨1, (s : Int), f, t, (mk : Int), (fi : Int), cs, (ak : Int)⟩ co cn cp
  obtain ⟨W, eW⟩ : ∃ W, w.alloc (.cells (dgc ⟨1, (s : Int), f, t, (mk : Int), (fi : Int), cs, (ak : Int)⟩ co cn cp) 25) = W := ⟨_, rfl⟩
  obtain ⟨g, eg⟩ : ∃ g, w.heap.size = g := ⟨_, rfl⟩
  unfold newDg at hb0
  rw [eW] at A0 hb0 HR0 HT0
  rw [eg] at hb0
  have HA := hid A0
  have HB := hid hb0
  have HG := hid eg
  have HWs : Hid (g < W.heap.size) := hid (block_lt hb0)
  obtain ⟨m0, m1, m2, m3, m4, m5, m6, m7, _⟩ := HB.out.cells
  dsimp only at m0 m1 m2 m3 m4 m5 m6 m7
  have A1 := Still.alloc W (.cells #[.int .u8 101, .int .u8 1] 5)
  have HN1 : Hid (Nw W (W.alloc (.cells #[.int .u8 101, .int .u8 1] 5)) (some ⟨W.heap.size, 0, none⟩) 2 2 [101, by8 1]) := hid ⟨Rd.two16 W 101 (by8 1) 101 1 rfl rfl, A1, fun a ha => by cases ha; exact Nat.le_refl _⟩
  have HE := hid (reight_any s hs (W.alloc (.cells #[.int .u8 101, .int .u8 1] 5)))
  have HB1 := hid (hb0.still A1)
  obtain ⟨p0, p1, p2, p3, p4, p5, p6, p7, _⟩ := HB1.out.cells
  dsimp only at p0 p1 p2 p3 p4 p5 p6 p7
  clear A0 hb0 A1
  go_enter Tryz.func25, Tryz.ntmps25
  go_wp2_with fail
  refine HE.out.mono ?_
  rintro e w2 ⟨ao2, cap2, he, ho2, h2, _⟩
  rw [he]
  have HN2 := hid (HN1.out.still h2)
  have HB2 := hid (HB1.out.still h2)
  have HR2 := hid ho2.rd
  clear he ho2 h2 HE HN1 HB1 p0 p1 p2 p3 p4 p5 p6 p7
  clear m0 m1 m2 m3 m4 m5 m6 m7
  go_upto_region 3 with (at_builtin; refine wpList_app _ rfl _ _ 31 rfl 5 i0 Tryz.underlying31 hi0 hz0 hs10 hb10 (some ⟨W.heap.size, 0, none⟩) ao2 2 2 8 cap2 [101, by8 1] (Wp.sumF 8 s) rfl rfl HN2.out.o HR2.out (by omega) ?_; intro ao3 cap3 w3 ho3 hf3 hn3 _)
  have HN3 := hid (HN2.out.app ho3 hf3 hn3)
  have HB3 := hid (HB.out.still HN3.out.s)
  clear ho3 hf3 hn3 HN2 HR2 HB2
  obtain ⟨m0, m1, m2, m3, m4, m5, m6, m7, _⟩ := HB3.out.cells
  dsimp only at m0 m1 m2 m3 m4 m5 m6 m7
  have A3 := Still.alloc w3 (.cells #[.int .u8 f, .int .u8 t] 5)
  have HO3 := hid (Rd.two16 w3 (by8 f) (by8 t) f t (by8_to (by omega) (by omega)).symm (by8_to (by omega) (by omega)).symm)
  have HN3a := hid (HN3.out.still A3)
  have HB3a := hid (HB3.out.still A3)
  clear A3
  go_upto_region 4 with (at_builtin; refine wpList_app _ rfl _ _ 31 rfl 5 i0 Tryz.underlying31 hi0 hz0 hs10 hb10 ao3 (some ⟨w3.heap.size, 0, none⟩) 10 cap3 2 2 ([101, by8 1] ++ Wp.sumF 8 s) [by8 f, by8 t] rfl rfl HN3a.out.o HO3.out.rd (by omega) ?_; intro ao4 cap4 w4 ho4 hf4 hn4 _)
  have HN4 := hid (HN3a.out.app ho4 hf4 hn4)
  have HB4 := hid (HB.out.still HN4.out.s)
  clear ho4 hf4 hn4 HN3 HN3a HB3 HB3a HO3
  clear m0 m1 m2 m3 m4 m5 m6 m7
  obtain ⟨m0, m1, m2, m3, m4, m5, m6, m7, _⟩ := HB4.out.cells
  dsimp only at m0 m1 m2 m3 m4 m5 m6 m7
  obtain ⟨n4, en4⟩ : ∃ n, 10 + 2 = n := ⟨_, rfl⟩
  have HZ4 : Hid (([101, by8 1] ++ Wp.sumF 8 s ++ [by8 f, by8 t]).length ≤ 12) := hid (by simp [Wp.sumF_len])
  have HN4' : Hid (Nw W w4 ao4 n4 cap4 ([101, by8 1] ++ Wp.sumF 8 s ++ [by8 f, by8 t])) := hid (by rw [← en4]; exact HN4.out)
  clear HN4
  have HN4 := HN4'
  clear HN4'
  rw [show (.slice ao4 12 cap4 : Value) = .slice ao4 n4 cap4 by rw [← en4]]
  clear en4
  have HC := hid (rnumber16_any W ao4 n4 cap4 _ mk (by omega) (by have := HN4.out.len; have := HZ4.out; omega) w4 HN4.out)
  go_wp2_with fail
  refine HC.out.mono ?_
  rintro e w5 ⟨ao5, n5, cap5, he, hn5, _⟩
  rw [he]
  have HN5 := hid hn5
  have HZ5 : Hid ((([101, by8 1] ++ Wp.sumF 8 s ++ [by8 f, by8 t]) ++ Cp.form mk).length ≤ 22) := hid (by
    have z1 := Cp.form_ten (n := mk) (by omega)
    have z2 := HZ4.out
    rw [List.length_append]
    omega)
  clear he hn5 HC HN4
  clear m0 m1 m2 m3 m4 m5 m6 m7
  have HB5 := hid (HB.out.still HN5.out.s)
  obtain ⟨m0, m1, m2, m3, m4, m5, m6, m7, _⟩ := HB5.out.cells
  dsimp only at m0 m1 m2 m3 m4 m5 m6 m7
  have HC := hid (rnumber16_any W ao5 n5 cap5 _ fi (by omega) (by have := HN5.out.len; have := HZ5.out; omega) w5 HN5.out)
  go_wp2_with fail
  refine HC.out.mono ?_
  rintro e w6 ⟨ao6, n6, cap6, he, hn6, _⟩
  rw [he]
  have HN6 := hid hn6
  have HZ6 : Hid (((([101, by8 1] ++ Wp.sumF 8 s ++ [by8 f, by8 t]) ++ Cp.form mk) ++ Cp.form fi).length ≤ 32) := hid (by
    have z1 := Cp.form_ten (n := fi) (by omega)
    have z2 := HZ5.out
    rw [List.length_append]
    omega)
  clear he hn6 HC HN5
  clear m0 m1 m2 m3 m4 m5 m6 m7
  have HB6 := hid (HB.out.still HN6.out.s)
  obtain ⟨m0, m1, m2, m3, m4, m5, m6, m7, _⟩ := HB6.out.cells
  dsimp only at m0 m1 m2 m3 m4 m5 m6 m7
  have HC := hid (rnumber16_any W ao6 n6 cap6 _ cn (by omega) (by have := HN6.out.len; have := HZ6.out; omega) w6 HN6.out)
  go_wp2_with fail
  refine HC.out.mono ?_
  rintro e w7 ⟨ao7, n7, cap7, he, hn7, _⟩
  rw [he]
  have HN7 := hid hn7
  have HZ7 : Hid ((((([101, by8 1] ++ Wp.sumF 8 s ++ [by8 f, by8 t]) ++ Cp.form mk) ++ Cp.form fi) ++ Cp.form cn).length ≤ 42) := hid (by
    have z1 := Cp.form_ten (n := cn) (by omega)
    have z2 := HZ6.out
    rw [List.length_append]
    omega)
  clear he hn7 HC HN6
  clear m0 m1 m2 m3 m4 m5 m6 m7
  have HB7 := hid (HB.out.still HN7.out.s)
  obtain ⟨m0, m1, m2, m3, m4, m5, m6, m7, _⟩ := HB7.out.cells
  dsimp only at m0 m1 m2 m3 m4 m5 m6 m7
  have HCs := hid (fun i => csB_take_le hm HAl.out i)
  go_wp2_with fail
  clear m0 m1 m2 m3 m4 m5 m6 m7
  go_loopw [3, 4, 5, 6, 7] (fun u3 u4 u5 u6 u7 wr => ∃ (i : Nat) (ao : Option Addr) (n cap : Nat), i ≤ cn ∧ u3 = .slice ao n cap ∧ u4 = .int .i64 (i : Int) ∧ Hid (Nw W wr ao n cap ((((([101, by8 1] ++ Wp.sumF 8 s ++ [by8 f, by8 t]) ++ Cp.form mk) ++ Cp.form fi) ++ Cp.form cn) ++ csB (mk : Int) (cs.take i)))) (fun _ u4 _ _ _ _ => cn - (intOf u4).toNat)
  case atStart => exact ⟨0, ao7, n7, cap7, by omega, rfl, rfl, hid (by simpa [csB] using HN7.out)⟩
  case round =>
    obtain ⟨i, ao, n, cap, hi, rfl, rfl, HNr⟩ := hrel
    have HBr := hid (HB.out.still HNr.out.s)
    obtain ⟨m0, m1, m2, m3, m4, m5, m6, m7, _⟩ := HBr.out.cells
    dsimp only at m0 m1 m2 m3 m4 m5 m6 m7
    by_cases hin : i < cn
    · have hlt : (i : Int) < (cn : Int) := by omega
      obtain ⟨B, o, eco⟩ := HR0.out.at (by omega)
      subst eco
      have hil : i < cs.length := by rw [HLn.out]; exact hin
      obtain ⟨k0, k1, k2, k3, k4, k5, k6⟩ := rdCc (HR0.out.still HNr.out.s) hin
      have HXx := hid (HAl.out (cc cs i) (by rw [cc_at hil]; exact List.getElem_mem hil))
      have HT := hid (csB_take (mk := (mk : Int)) hil)
      have hle := HCs.out i
      obtain ⟨x, ex⟩ : ∃ x, cc cs i = x := ⟨_, rfl⟩
      rw [ex] at k0 k1 k2 k3 k4 k5 k6 HXx HT
      have hxf := HXx.out.1
      have hxv := (chk_args HXx.out.2).1
      have hwr : IntKind.i64.wrap (x.fr - (mk : Int)) = x.fr - (mk : Int) := wr64 (by omega) (by omega)
      have hwv : IntKind.u8.wrap x.v = x.v := by rw [IntKind.wrap_u8]; omega
      have A2 := Still.alloc wr (.cells (kmc x) 42)
      have HK2 := hid (newCc_b wr x)
      have HB2 := hid (HBr.out.still A2)
      obtain ⟨_, _, _, _, q4, _, _, _, _⟩ := HB2.out.cells
      dsimp only at q4
      have hnl := HNr.out.len
      have hz7 := HZ7.out
      have hn1 : n ≤ 10500 := by
        rw [List.length_append] at hnl
        omega
      have HC := hid (rsigned16_any W ao n cap _ (x.fr - (mk : Int)) (by omega) (by omega) _ (HNr.out.still A2))
      obtain ⟨gc, egc⟩ : ∃ g, wr.heap.size = g := ⟨_, rfl⟩
      have HEg := hid egc
      clear ex A2 egc
      go_wp2_with fail
      refine HC.out.mono ?_
      rintro e w8 ⟨ao8, n8, cap8, he, hn8, hf8⟩
      rw [he]
      rw [HEg.out] at HK2 ⊢
      have HK8 : Hid (Ccb w8 gc x) := hid (hf8.kept HK2.out (fun e => by
        obtain ⟨a, ha, e⟩ := e
        obtain ⟨_, _, cur, hc, _⟩ := (HNr.out.still (Still.alloc wr (.cells (kmc x) 42))).o.row a ha
        have h5 := HK2.out
        unfold Ccb at h5
        rw [e, h5] at hc
        cases hc))
      have HN8 := hid hn8
      have hsg := sgB_le (n := x.fr - (mk : Int)) (by omega) (by omega)
      have hn8l : n8 ≤ 10510 := by
        have := hn8.len
        rw [List.length_append, hnl] at this
        omega
      clear he hn8 hf8 HC HK2 HB2 q4 m0 m1 m2 m3 m4 m5 m6 m7 k0 k1 k2 k3 k4 k5 k6
      obtain ⟨c0, c1, c2, c3, c4, c5, c6, _⟩ := HK8.out.cells
      have HO8 := hid (Ow.one w8 (by8 x.v) x.v (by8_to (by omega) (by omega)).symm)
      have A8 := Still.alloc w8 (.cells #[.int .u8 x.v] 5)
      have HN8a := hid (HN8.out.still A8)
      have HK8a := hid (HK8.out.still A8)
      clear A8
      go_upto_region 14 with (at_builtin; refine wpList_app _ rfl _ _ 31 rfl 5 i0 Tryz.underlying31 hi0 hz0 hs10 hb10 ao8 (some ⟨w8.heap.size, 0, none⟩) n8 cap8 1 1 _ [by8 x.v] rfl rfl HN8a.out.o HO8.out.rd (by omega) ?_; intro ao9 cap9 w9 ho9 hf9 hn9 _)
      have HN9 := hid (HN8a.out.app ho9 hf9 hn9)
      have HK9 : Hid (Ccb w9 gc x) := hid (hf9.kept HK8a.out (fun e => by
        obtain ⟨a, ha, e⟩ := e
        obtain ⟨_, _, cur, hc, _⟩ := HN8a.out.o.row a ha
        have h5 := HK8a.out
        unfold Ccb at h5
        rw [e, h5] at hc
        cases hc))
      clear ho9 hf9 hn9 HN8 HN8a HK8 HK8a HO8 c0 c1 c2 c3 c4 c5 c6
      obtain ⟨c0, c1, c2, c3, c4, c5, c6, _⟩ := HK9.out.cells
      have HP := hid (roper_any x.v w9 (HT0.out.still HN9.out.s))
      go_wp2_with fail
      refine HP.out.mono ?_
      rintro e w10 ⟨xx, he, ho10, h10⟩
      rw [he]
      obtain ⟨xo, xc, exx, _⟩ := ho10.slice
      subst exx
      have hno : (opV x.v).length = nOp x.v := rfl
      rw [hno]
      have hn2 := nOp_le x.v
      obtain ⟨N, eN⟩ : ∃ N, nOp x.v = N := ⟨_, rfl⟩
      have HNN := hid eN
      rw [eN] at hn2 ⊢
      have HN10 := hid (HN9.out.still h10)
      have HK10 := hid (HK9.out.still h10)
      have hx64 := chk_i64 HXx.out.2
      have HX64 := hid hx64
      clear he ho10 h10 HP HN9 HK9 hno eN c0 c1 c2 c3 c4 c5 c6 hx64
      go_wp2_with fail
      go_loopw [3, 7] (fun u3 u7 wk => ∃ (k : Nat) (ao : Option Addr) (m cap : Nat), k ≤ N ∧ u3 = .slice ao m cap ∧ u7 = .int .i64 (k : Int) ∧ Hid (Nw W wk ao m cap (((((([101, by8 1] ++ Wp.sumF 8 s ++ [by8 f, by8 t]) ++ Cp.form mk) ++ Cp.form fi) ++ Cp.form cn) ++ csB (mk : Int) (cs.take i)) ++ sgB (x.fr - (mk : Int)) ++ [by8 x.v] ++ ([x.a, x.b, x.c].take k).flatMap sgB) ∧ Ccb wk gc x)) (fun _ u7 _ => N - (intOf u7).toNat)
      case atStart => exact ⟨0, ao9, n8 + 1, cap9, by omega, rfl, rfl, hid ⟨by simpa using HN10.out, HK10.out⟩⟩
      case round =>
        obtain ⟨k, ao, m, cap, hk, rfl, rfl, HNk⟩ := hrel
        by_cases hkn : k < N
        · have hlt2 : (k : Int) < (N : Int) := by omega
          obtain ⟨c0, c1, c2, c3, c4, c5, c6, _⟩ := HNk.out.2.cells
          have HOp := hid (roperand_any x.v x.a x.b x.c k wr)
          rw [opr_gv x.a x.b x.c k (by omega)] at HOp
          have HTk : Hid (([x.a, x.b, x.c].take (k + 1)).flatMap sgB = ([x.a, x.b, x.c].take k).flatMap sgB ++ sgB (gv x.a x.b x.c k)) := hid (take_arg x.v x.a x.b x.c (by rw [HNN.out]; exact hkn))
          have hgv : -9223372036854775808 ≤ gv x.a x.b x.c k ∧ gv x.a x.b x.c k ≤ 9223372036854775807 := HX64.out _ (by
            rcases (show k = 0 ∨ k = 1 by omega) with rfl | rfl <;> simp [gv])
          have hml : m ≤ 10600 := by
            have h1 := HNk.out.1.len
            have h2 := arg_len x.a x.b x.c HX64.out k
            simp only [List.length_append, List.length_cons, List.length_nil] at h1 hnl
            omega
          obtain ⟨z, ez⟩ : ∃ z, gv x.a x.b x.c k = z := ⟨_, rfl⟩
          rw [ez] at HOp HTk hgv
          clear ez
          go_wp2_with fail
          refine HOp.out.mono ?_
          rintro e w11 ⟨he, h11⟩
          rw [he]
          have HC := hid (rsigned16_any W ao m cap _ z hgv (by omega) w11 (HNk.out.1.still h11))
          have HK11 := hid (HNk.out.2.still h11)
          have HN11 := hid (HNk.out.1.still h11)
          clear he h11 HOp c0 c1 c2 c3 c4 c5 c6
          go_wp2_with fail
          refine HC.out.mono ?_
          rintro e w12 ⟨ao12, n12, cap12, he, hn12, hf12⟩
          rw [he]
          have HN12 : Hid (Nw W w12 ao12 n12 cap12 (((((([101, by8 1] ++ Wp.sumF 8 s ++ [by8 f, by8 t]) ++ Cp.form mk) ++ Cp.form fi) ++ Cp.form cn) ++ csB (mk : Int) (cs.take i)) ++ sgB (x.fr - (mk : Int)) ++ [by8 x.v] ++ ([x.a, x.b, x.c].take (k + 1)).flatMap sgB) ∧ Ccb w12 gc x) := hid ⟨by
            rw [HTk.out, ← List.append_assoc]
            exact hn12, hf12.kept HK11.out (fun e => by
            obtain ⟨a, ha, e⟩ := e
            obtain ⟨_, _, cur, hc, _⟩ := HN11.out.o.row a ha
            have h5 := HK11.out
            unfold Ccb at h5
            rw [e, h5] at hc
            cases hc)⟩
          clear he hn12 hf12 HC HNk HK11 HN11 HTk
          go_wp2_with fail
          go_roundw
          case rel => exact ⟨k + 1, ao12, n12, cap12, by omega, rfl, by go_num, HN12⟩
          case measure => simp [intOf]; omega
        · have hge2 : ¬ (k : Int) < (N : Int) := by omega
          obtain rfl : k = N := by omega
          have HF : Hid (Nw W wr ao m cap ((((([101, by8 1] ++ Wp.sumF 8 s ++ [by8 f, by8 t]) ++ Cp.form mk) ++ Cp.form fi) ++ Cp.form cn) ++ csB (mk : Int) (cs.take (i + 1)))) := hid (by
            have h1 := HNk.out.1
            rw [HT.out]
            unfold cmB argB
            rw [HNN.out]
            simpa only [List.append_assoc, List.cons_append, List.nil_append] using h1)
          clear HNk
          go_wp2_with fail
          go_roundw
          case rel => exact ⟨i + 1, ao, m, cap, by omega, rfl, by go_num, HF⟩
          case measure => simp [intOf]; omega
    · have hge : ¬ (i : Int) < (cn : Int) := by omega
      obtain rfl : cn = i := by omega
      have HN9 : Hid (Nw W wr ao n cap ((((([101, by8 1] ++ Wp.sumF 8 s ++ [by8 f, by8 t]) ++ Cp.form mk) ++ Cp.form fi) ++ Cp.form cn) ++ csB (mk : Int) cs)) := hid (by
        have h1 := HNr.out
        rw [List.take_of_length_le (by rw [HLn.out]; omega)] at h1
        exact h1)
      have hle : n ≤ 11000 := by
        have h1 := HN9.out.len
        have h2 := csB_le hm cs HAl.out
        have h3 := HZ7.out
        have h4 := HLn.out
        rw [List.length_append] at h1
        omega
      have HC := hid (rnumber16_any W ao n cap _ ak hak (by omega) wr HN9.out)
      go_wp2_with fail
      refine HC.out.mono ?_
      rintro e w5 ⟨ao5, n5, cap5, he, hn5, _⟩
      rw [he]
      have HF : Hid (Nw w w5 ao5 n5 cap5 (opnB ⟨1, (s : Int), f, t, (mk : Int), (fi : Int), cs, (ak : Int)⟩)) := hid (by
        have e1 : ((((([101, by8 1] ++ Wp.sumF 8 s ++ [by8 f, by8 t]) ++ Cp.form mk) ++ Cp.form fi) ++ Cp.form cn) ++ csB (mk : Int) cs) ++ Cp.form ak = opnB ⟨1, (s : Int), f, t, (mk : Int), (fi : Int), cs, (ak : Int)⟩ := by
          unfold opnB hdB tnB
          dsimp only
          rw [if_pos rfl, HLn.out]
          simp
        rw [← e1]
        exact hn5.down HA.out)
      clear he hn5 HC
      go_wp2_with fail
      go_ret
      exact ⟨ao5, n5, cap5, rfl, HF.out⟩
end Go.Proofs.YtaaongbdincimaaGreatDoor
