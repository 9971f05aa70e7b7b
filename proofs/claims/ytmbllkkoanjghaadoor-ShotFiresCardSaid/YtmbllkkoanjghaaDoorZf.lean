/- What the laws ask of the program's functions on shots, as one bundle; the examples. -/
import Derived.Test.YtmbllkkoanjghaaDoorZe
namespace Go.Proofs.YtmbllkkoanjghaaDoor
open Go.RowKit
open Pu Gp Ap Vp Np Za
set_option maxRecDepth 100000

/-- The program's functions answer as the plain words say, in whatever world follows w. -/
structure Cts9 (w : World) : Prop where
  chk : ∀ s u, Still w u → Calls Tryd.prog 9 #[sv s] u fun e w' => e = .returned (.int .i64 (chkS s)) ∧ Still u w'
  dam : ∀ p u, Still w u → Calls Tryd.prog 11 #[.int .i64 p] u fun e w' => e = .returned (.int .i64 (dmg p)) ∧ Still u w'
  fir : ∀ m ow pw no u, Still w u → Calls Tryd.prog 13 #[mv m, .int .i64 ow, .int .i64 pw, .int .i64 no] u fun e w' => e = .returned (.tuple #[sv (firS m ow pw no), .int .i64 (errF m ow pw no)]) ∧ Still u w'
  fly : ∀ s C R (b : ByteArray) u, b.size ≤ 281474976710656 → C ≤ 9223372036854775807 → Still w u → Calls Tryd.prog 15 #[sv s, ar C R b] u fun e w' => e = .returned (.tuple #[sv (flyS (solB C R b) s), .bool (goes (solB C R b) s), .int .i64 (chkS s)]) ∧ Still u w'
theorem Cts9.still {w w' : World} (h : Cts9 w) (hs : Still w w') : Cts9 w' :=
  ⟨fun s u k => h.chk s u (hs.trans k), fun p u k => h.dam p u (hs.trans k), fun m o p n u k => h.fir m o p n u (hs.trans k), fun s C R b u z y k => h.fly s C R b u z y (hs.trans k)⟩
theorem a9_start : startM 0 0 2 = ⟨0, 0, 0, 0, 0, 0, 2, 100, 50, false, 0, 0, 0⟩ := by kernel_rfl
theorem a9_fir : firS ⟨0, 0, 0, 0, 0, 0, 2, 100, 50, false, 0, 0, 0⟩ 1 3 7 = ⟨7, 1, 3, 1267, 1267, 724, 724, 40⟩ ∧ errF ⟨0, 0, 0, 0, 0, 0, 2, 100, 50, false, 0, 0, 0⟩ 1 3 7 = 0 := ⟨by kernel_rfl, by kernel_rfl⟩
theorem a9_fly : flyS (solB 3 3 ⟨#[46, 46, 46, 46, 46, 46, 46, 46, 46]⟩) ⟨1, 0, 1, 100, 100, 64, 0, 2⟩ = ⟨1, 0, 1, 164, 100, 64, 0, 1⟩ ∧ goes (solB 3 3 ⟨#[46, 46, 46, 46, 46, 46, 46, 46, 46]⟩) ⟨1, 0, 1, 100, 100, 64, 0, 2⟩ = true ∧ chkS ⟨1, 0, 1, 100, 100, 64, 0, 2⟩ = 0 := ⟨by kernel_rfl, by kernel_rfl, by kernel_rfl⟩
theorem a9_chk : chkS zS = 90 ∧ dmg 2 = 30 := ⟨by kernel_rfl, by kernel_rfl⟩
set_option maxHeartbeats 4000000 in
theorem awake9_any (w : World) (C : Cts9 w) : Calls Tryd.prog 8 #[] w fun e w' => e = .returned (.bool true) ∧ Still w w' := by
  have G1 := guard_sv
  have G2 := guard_pt
  have E1 : ∀ w, (binOp .eql 25 (.agg #[.int .i64 7, .int .i64 1, .int .i64 3, .int .i64 1267, .int .i64 1267, .int .i64 724, .int .i64 724, .int .i64 40]) (.agg #[.int .i64 7, .int .i64 1, .int .i64 3, .int .i64 1267, .int .i64 1267, .int .i64 724, .int .i64 724, .int .i64 40])).run Tryd.prog w = .ok (.bool true) w := eql_sv_t ⟨7, 1, 3, 1267, 1267, 724, 724, 40⟩
  have E2 := eql_pt_t (x := 164) (y := 100) (z := 164) (u := 100) rfl rfl
  go_enter Tryd.func8, Tryd.ntmps8
  go_wp2_with fail
  refine (rstart_any 0 0 2 _).mono ?_
  rintro e w1 ⟨rfl, h1⟩
  rw [a9_start]
  have a1 := newM_mb w1 ⟨0, 0, 0, 0, 0, 0, 2, 100, 50, false, 0, 0, 0⟩
  have HS1 := hid (h1.trans (Still.alloc w1 (.cells (mcs ⟨0, 0, 0, 0, 0, 0, 2, 100, 50, false, 0, 0, 0⟩) 32)))
  clear h1
  obtain ⟨c0, c1, c2, c3, c4, c5, c6, c7, c8, c9, c10, c11, c12, cf⟩ := a1.cells
  go_wp2_with fail
  refine (C.fir ⟨0, 0, 0, 0, 0, 0, 2, 100, 50, false, 0, 0, 0⟩ 1 3 7 _ HS1.out).mono ?_
  rintro e w2 ⟨rfl, h2⟩
  rw [a9_fir.1, a9_fir.2]
  have A2 := Still.alloc w2 (.cells (scs ⟨7, 1, 3, 1267, 1267, 724, 724, 40⟩) 25)
  have b2 := newS_sb w2 ⟨7, 1, 3, 1267, 1267, 724, 724, 40⟩
  have HS2 := hid ((HS1.out.trans h2).trans A2)
  clear h2 A2 HS1 a1 c0 c1 c2 c3 c4 c5 c6 c7 c8 c9 c10 c11 c12 cf
  go_wp2_with fail
  have A3 := Still.alloc (newS w2 ⟨7, 1, 3, 1267, 1267, 724, 724, 40⟩) (.cells #[.int .i64 3, .int .i64 3, .string ⟨#[46, 46, 46, 46, 46, 46, 46, 46, 46]⟩] 37)
  have b3 := b2.still A3
  have HS3 := hid (HS2.out.trans A3)
  clear A3 HS2 b2
  refine (C.fly ⟨1, 0, 1, 100, 100, 64, 0, 2⟩ 3 3 ⟨#[46, 46, 46, 46, 46, 46, 46, 46, 46]⟩ _ (by decide) (by decide) HS3.out).mono ?_
  rintro e w4 ⟨rfl, h4⟩
  rw [a9_fly.1, a9_fly.2.1, a9_fly.2.2]
  have A4 := Still.alloc w4 (.cells (scs ⟨1, 0, 1, 164, 100, 64, 0, 1⟩) 25)
  have b4 := (b3.still h4).still A4
  have d4 := newS_sb w4 ⟨1, 0, 1, 164, 100, 64, 0, 1⟩
  have HS4 := hid ((HS3.out.trans h4).trans A4)
  clear h4 A4 HS3 b3
  obtain ⟨c0, c1, c2, c3, c4, c5, c6, c7, cf⟩ := b4.cells
  obtain ⟨k0, k1, k2, k3, k4, k5, k6, k7, kf⟩ := d4.cells
  go_wp2_with fail
  refine (C.dam 2 _ HS4.out).mono ?_
  rintro e w5 ⟨rfl, h5⟩
  rw [a9_chk.2]
  have HS5 := hid (HS4.out.trans h5)
  clear h5 HS4 b4 d4 c0 c1 c2 c3 c4 c5 c6 c7 cf k0 k1 k2 k3 k4 k5 k6 k7 kf
  go_wp2_with fail
  refine (C.chk zS _ HS5.out).mono ?_
  rintro e w6 ⟨rfl, h6⟩
  rw [a9_chk.1]
  have HS6 := hid (HS5.out.trans h6)
  clear h6 HS5
  go_wp2_with fail
  go_ret
  exact ⟨rfl, HS6.out⟩
set_option maxHeartbeats 1000000 in
theorem checks_law (s : Sh) (p : Int) (w : World) (C : Cts9 w) : Calls Tryd.prog 3 #[sv s, .int .i64 p] w fun e w' => e = .returned (.bool true) ∧ Still w w' := by
  have p0 := newS_sb w s
  have HS0 := hid (Still.alloc w (.cells (scs s) 25))
  go_enter Tryd.func3, Tryd.ntmps3
  go_wp2_with fail
  refine (awake9_any _ (C.still HS0.out)).mono ?_
  rintro e w1 ⟨rfl, h1⟩
  have p1 := p0.still h1
  have HS1 := hid (HS0.out.trans h1)
  clear h1 HS0 p0
  obtain ⟨c0, c1, c2, c3, c4, c5, c6, c7, cf⟩ := p1.cells
  have k0 := Cl.cell c0
  have k1 := Cl.cell c1
  have k2 := Cl.cell c2
  have k3 := Cl.cell c3
  have k4 := Cl.cell c4
  have k5 := Cl.cell c5
  have k6 := Cl.cell c6
  have k7 := Cl.cell c7
  clear c0 c1 c2 c3 c4 c5 c6 c7 cf
  have hne := Aft.here w1
  have H1 := hid (fun z : Aft w1 => C.chk s z.u (HS1.out.trans z.s))
  have H2 := hid (fun z : Aft w1 => rchks_any s z.u)
  have H3 := hid (fun z : Aft w1 => C.dam p z.u (HS1.out.trans z.s))
  have H4 := hid (fun z : Aft w1 => rdmg_any p z.u)
  obtain ⟨q, eq⟩ : ∃ q, chkS s = q := ⟨_, rfl⟩
  obtain ⟨d, ed⟩ : ∃ d, dmg p = d := ⟨_, rfl⟩
  rw [eq] at H1 H2
  rw [ed] at H3 H4
  clear eq ed
  go_wp2_with fail
  refine region_all (by kernel_rfl) (by kernel_rfl) ?_
  repeat (go_big_quiet_step ((first | (go_at_call 9; exact Calls.cl (H1.out _)) | (go_at_call 10; exact Calls.cl (H2.out _)) | (go_at_call 11; exact Calls.cl (H3.out _)) | (go_at_call 12; exact Calls.cl_same (H4.out _)))))
  refine wpQuiet_nil ?_
  intro w2 h2
  go_wp2_with fail
  go_ret
  exact ⟨rfl, HS1.out.trans h2⟩
set_option maxHeartbeats 1000000 in
theorem fires_law (m : Mv) (ow pw no : Int) (w : World) (C : Cts9 w) (ht : RTab w) : Calls Tryd.prog 4 #[mv m, .int .i64 ow, .int .i64 pw, .int .i64 no] w fun e w' => e = .returned (.bool true) ∧ Still w w' := by
  have G1 := guard_sv
  have p0 := newM_mb w m
  have HS0 := hid (Still.alloc w (.cells (mcs m) 32))
  have HC := hid (fun u (hu : Still w u) => C.fir m ow pw no u hu)
  have HR := hid (fun u (hu : Still w u) => rfire_any m ow pw no u (ht.still hu))
  obtain ⟨n, en⟩ : ∃ n, firS m ow pw no = n := ⟨_, rfl⟩
  obtain ⟨q, eq⟩ : ∃ q, errF m ow pw no = q := ⟨_, rfl⟩
  rw [en, eq] at HC HR
  have E1 := eql_sv_t n
  clear en eq
  go_enter Tryd.func4, Tryd.ntmps4
  go_wp2_with fail
  refine (awake9_any _ (C.still HS0.out)).mono ?_
  rintro e w1 ⟨rfl, h1⟩
  have p1 := p0.still h1
  have HS1 := hid (HS0.out.trans h1)
  clear h1 HS0 p0
  obtain ⟨c0, c1, c2, c3, c4, c5, c6, c7, c8, c9, c10, c11, c12, cf⟩ := p1.cells
  go_wp2_with fail
  refine (HC.out _ HS1.out).mono ?_
  rintro e w2 ⟨rfl, h2⟩
  have A2 := Still.alloc w2 (.cells (scs n) 25)
  have p2 := (p1.still h2).still A2
  have n2 := newS_sb w2 n
  have HS2 := hid ((HS1.out.trans h2).trans A2)
  clear h2 A2 HS1 p1 c0 c1 c2 c3 c4 c5 c6 c7 c8 c9 c10 c11 c12 cf
  obtain ⟨c0, c1, c2, c3, c4, c5, c6, c7, c8, c9, c10, c11, c12, cf⟩ := p2.cells
  go_wp2_with fail
  refine (HR.out _ HS2.out).mono ?_
  rintro e w3 ⟨rfl, h3⟩
  have A3 := Still.alloc w3 (.cells (scs n) 25)
  have n3 := (n2.still h3).still A3
  have t3 := newS_sb w3 n
  have HS3 := hid ((HS2.out.trans h3).trans A3)
  clear h3 A3 HS2 p2 n2 c0 c1 c2 c3 c4 c5 c6 c7 c8 c9 c10 c11 c12 cf
  obtain ⟨c0, c1, c2, c3, c4, c5, c6, c7, cf⟩ := n3.cells
  obtain ⟨k0, k1, k2, k3, k4, k5, k6, k7, kf⟩ := t3.cells
  go_wp2_with fail
  go_ret
  exact ⟨rfl, HS3.out⟩
set_option maxHeartbeats 1000000 in
theorem flies_law (s : Sh) (C R : Int) (b : ByteArray) (hz : b.size ≤ 281474976710656) (hC : C ≤ 9223372036854775807) (w : World) (C9 : Cts9 w) : Calls Tryd.prog 5 #[sv s, ar C R b] w fun e w' => e = .returned (.bool true) ∧ Still w w' := by
  have G1 := guard_sv
  have A0 := Still.alloc w (.cells (scs s) 25)
  have A1 := Still.alloc (newS w s) (.cells #[.int .i64 C, .int .i64 R, .string b] 37)
  have p0 := (newS_sb w s).still A1
  have o0 := newA_ab (newS w s) C R b
  simp only [size_alloc] at o0
  have HS0 := hid (A0.trans A1)
  clear A0 A1
  have HC := hid (fun u (hu : Still w u) => C9.fly s C R b u hz hC hu)
  have HR := hid (fun u => rfly_any s C R b hz hC u)
  obtain ⟨n, en⟩ : ∃ n, flyS (solB C R b) s = n := ⟨_, rfl⟩
  obtain ⟨q, eq⟩ : ∃ q, chkS s = q := ⟨_, rfl⟩
  obtain ⟨g, eg⟩ : ∃ g, goes (solB C R b) s = g := ⟨_, rfl⟩
  rw [en, eq, eg] at HC HR
  have E1 := eql_sv_t n
  clear en eq eg hz hC
  go_enter Tryd.func5, Tryd.ntmps5
  go_wp2_with fail
  refine (awake9_any _ (C9.still HS0.out)).mono ?_
  rintro e w1 ⟨rfl, h1⟩
  have p1 := p0.still h1
  have o1 := o0.still h1
  have HS1 := hid (HS0.out.trans h1)
  clear h1 HS0 p0 o0
  obtain ⟨c0, c1, c2, c3, c4, c5, c6, c7, cf⟩ := p1.cells
  obtain ⟨d0, d1, d2, df⟩ := o1.cells
  go_wp2_with fail
  refine (HC.out _ HS1.out).mono ?_
  rintro e w2 ⟨rfl, h2⟩
  have A2 := Still.alloc w2 (.cells (scs n) 25)
  have p2 := (p1.still h2).still A2
  have o2 := (o1.still h2).still A2
  have n2 := newS_sb w2 n
  have HS2 := hid ((HS1.out.trans h2).trans A2)
  clear h2 A2 HS1 p1 o1 c0 c1 c2 c3 c4 c5 c6 c7 cf d0 d1 d2 df
  obtain ⟨c0, c1, c2, c3, c4, c5, c6, c7, cf⟩ := p2.cells
  obtain ⟨d0, d1, d2, df⟩ := o2.cells
  go_wp2_with fail
  refine (HR.out _).mono ?_
  rintro e w3 ⟨rfl, h3⟩
  have A3 := Still.alloc w3 (.cells (scs n) 25)
  have n3 := (n2.still h3).still A3
  have t3 := newS_sb w3 n
  have HS3 := hid ((HS2.out.trans h3).trans A3)
  clear h3 A3 HS2 p2 n2 o2 c0 c1 c2 c3 c4 c5 c6 c7 cf d0 d1 d2 df
  obtain ⟨c0, c1, c2, c3, c4, c5, c6, c7, cf⟩ := n3.cells
  obtain ⟨k0, k1, k2, k3, k4, k5, k6, k7, kf⟩ := t3.cells
  go_wp2_with fail
  go_ret
  exact ⟨by simp, HS3.out⟩
end Go.Proofs.YtmbllkkoanjghaaDoor
