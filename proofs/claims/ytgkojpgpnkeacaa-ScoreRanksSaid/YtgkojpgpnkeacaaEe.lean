/- The law on scores that are hit; the examples. -/
import Derived.Test.YtgkojpgpnkeacaaEd
namespace Go.Proofs.Ytgkojpgpnkeacaa
open Go.RowKit
open Ea
set_option maxRecDepth 100000

theorem pair_exC (w : World) (X Y : Scr) : ∃ W1 W2 W3, (w.alloc (.cells #[.int .i64 0, .int .i64 0, .int .i64 0, .int .i64 0] 23)).alloc (.cells #[.int .i64 0, .int .i64 0, .int .i64 0, .int .i64 0] 23) = W1 ∧ (((W1.setCell ⟨w.heap.size, 0, none⟩ (.int .i64 X.p)).setCell ⟨w.heap.size, 1, none⟩ (.int .i64 X.h)).setCell ⟨w.heap.size, 2, none⟩ (.int .i64 X.o)).setCell ⟨w.heap.size, 3, none⟩ (.int .i64 X.k) = W2 ∧ (((W2.setCell ⟨w.heap.size + 1, 0, none⟩ (.int .i64 Y.p)).setCell ⟨w.heap.size + 1, 1, none⟩ (.int .i64 Y.h)).setCell ⟨w.heap.size + 1, 2, none⟩ (.int .i64 Y.o)).setCell ⟨w.heap.size + 1, 3, none⟩ (.int .i64 Y.k) = W3 ∧ Cb W1 w.heap.size zC ∧ Cb W2 (w.heap.size + 1) zC ∧ Cb W3 w.heap.size X ∧ Cb W3 (w.heap.size + 1) Y ∧ Still w W3 := by
  have B1 := Still.alloc w (.cells (ccs zC) 23)
  have B2 := Still.alloc (newC w zC) (.cells (ccs zC) 23)
  have r1 := (newC_cb w zC).still B2
  have s1 := newC_cb (newC w zC) zC
  simp only [size_alloc] at s1
  have h1 := B1.trans B2
  obtain ⟨W1, eW1⟩ : ∃ W, (w.alloc (.cells (ccs zC) 23)).alloc (.cells (ccs zC) 23) = W := ⟨_, rfl⟩
  have r1' : Cb W1 w.heap.size zC := by rw [← eW1]; exact r1
  have s1' : Cb W1 (w.heap.size + 1) zC := by rw [← eW1]; exact s1
  have h1' : Still w W1 := by rw [← eW1]; exact h1
  have r2 := r1'.put X.p X.h X.o X.k
  have s2 := s1'.others (k := w.heap.size) (by omega) X.p X.h X.o X.k
  have h2 := setC_frC (setC_frC (setC_frC (setC_frC h1' w.heap.size 0 (.int .i64 X.p) (Nat.le_refl _)) w.heap.size 1 (.int .i64 X.h) (Nat.le_refl _)) w.heap.size 2 (.int .i64 X.o) (Nat.le_refl _)) w.heap.size 3 (.int .i64 X.k) (Nat.le_refl _)
  refine ⟨W1, _, _, eW1, rfl, rfl, r1', s2, ?_, ?_, ?_⟩
  · exact r2.others (k := w.heap.size + 1) (by omega) Y.p Y.h Y.o Y.k
  · exact s2.put Y.p Y.h Y.o Y.k
  · exact setC_frC (setC_frC (setC_frC (setC_frC h2 (w.heap.size + 1) 0 (.int .i64 Y.p) (Nat.le_succ _)) (w.heap.size + 1) 1 (.int .i64 Y.h) (Nat.le_succ _)) (w.heap.size + 1) 2 (.int .i64 Y.o) (Nat.le_succ _)) (w.heap.size + 1) 3 (.int .i64 Y.k) (Nat.le_succ _)
def InN (n : Int) : Prop := -9223372036854775808 ≤ n ∧ n ≤ 9223372036854775807
def InC (x : Scr) : Prop := InN x.p ∧ InN x.h ∧ InN x.o ∧ InN x.k
theorem may_inC {x : Scr} (h : MayC x) : InC x := by
  obtain ⟨h1, h2, h3, h4⟩ := h
  refine ⟨⟨?_, ?_⟩, ⟨?_, ?_⟩, ⟨?_, ?_⟩, ?_, ?_⟩ <;> omega
/-- The program's functions answer as the plain words say, in whatever world follows w. -/
structure Cts12 (w : World) : Prop where
  chk : ∀ (x : Scr) (u : World), InC x → Still w u → Calls Try.prog 12 #[cv x] u fun e w' => e = .returned (.int .i64 (chkC x)) ∧ Still u w'
  hit : ∀ (a b : Scr) (n : Int) (out : Bool) (u : World), InC a → InC b → InN n → Still w u → Calls Try.prog 8 #[cv a, cv b, .int .i64 n, .bool out] u fun e w' => e = .returned (.tuple #[cv (hit1 a b n out), cv (hit2 a b n out), .int .i64 (errC a b n)]) ∧ Still u w'
  gai : ∀ (a : Scr) (n : Int) (u : World), InC a → InN n → Still w u → Calls Try.prog 10 #[cv a, .int .i64 n] u fun e w' => e = .returned (.tuple #[cv (gain a n), .int .i64 (errG a n)]) ∧ Still u w'
  rnk : ∀ (L : List Scr) (ao : Option Addr) (n cap : Nat) (u : World), (∀ i, i < L.length → InC (sc L i)) → RdG KC u ao n L → n ≤ cap → Still w u → Calls Try.prog 14 #[.slice ao n cap] u fun e w' => ∃ bo m cp, e = .returned (.tuple #[.slice bo m cp, .int .i64 (errR L)]) ∧ OwI 3 w' bo m cp (rnkA L) ∧ Still u w' ∧ ∀ a, bo = some a → u.heap.size ≤ a.block
theorem Cts12.still {w w' : World} (h : Cts12 w) (hs : Still w w') : Cts12 w' :=
  ⟨fun x u a k => h.chk x u a (hs.trans k), fun a b n o u x y z k => h.hit a b n o u x y z (hs.trans k), fun a n u x y k => h.gai a n u x y (hs.trans k), fun L ao n cap u a b c k => h.rnk L ao n cap u a b c (hs.trans k)⟩
theorem a12_hit : hit1 ⟨3, 0, 0, 7⟩ ⟨1, 0, 0, 2⟩ 2 true = ⟨20, 1, 0, 8⟩ ∧ hit2 ⟨3, 0, 0, 7⟩ ⟨1, 0, 0, 2⟩ 2 true = ⟨-1, 0, 1, 0⟩ ∧ errC ⟨3, 0, 0, 7⟩ ⟨1, 0, 0, 2⟩ 2 = 0 := ⟨by kernel_rfl, by kernel_rfl, by kernel_rfl⟩
theorem a12_gain : gain ⟨0, 0, 0, 0⟩ 5 = ⟨5, 0, 0, 0⟩ ∧ errG ⟨0, 0, 0, 0⟩ 5 = 0 := ⟨by kernel_rfl, by kernel_rfl⟩
theorem a12_rnk : rnkA [⟨1, 0, 0, 0⟩, ⟨5, 0, 0, 0⟩] = [1, 0] ∧ errR [⟨1, 0, 0, 0⟩, ⟨5, 0, 0, 0⟩] = 0 := ⟨by kernel_rfl, by kernel_rfl⟩
theorem a12_chk : chkC ⟨0, -1, 0, 0⟩ = 120 := by kernel_rfl
theorem inN_small {n : Int} (h1 : -1000 ≤ n) (h2 : n ≤ 1000) : InN n := ⟨by omega, by omega⟩
theorem rd_twoC (w : World) (a b : Scr) : RdG KC (w.alloc (.cells #[.int .i64 a.p, .int .i64 a.h, .int .i64 a.o, .int .i64 a.k, .int .i64 b.p, .int .i64 b.h, .int .i64 b.o, .int .i64 b.k] 23)) (some ⟨w.heap.size, 0, none⟩) 2 [a, b] := by
  have h : OwG KC 23 (w.alloc (.cells #[.int .i64 a.p, .int .i64 a.h, .int .i64 a.o, .int .i64 a.k, .int .i64 b.p, .int .i64 b.h, .int .i64 b.o, .int .i64 b.k] 23)) w.heap.size (.slice (some ⟨w.heap.size, 0, none⟩) 2 2) ([a, b] ++ []) :=
    World.ownsRow_lit (base := w.heap.size) (e := 23) (size := 4) w #[.int .i64 a.p, .int .i64 a.h, .int .i64 a.o, .int .i64 a.k, .int .i64 b.p, .int .i64 b.h, .int .i64 b.o, .int .i64 b.k] 2 (Nat.le_refl _) (by unfold maxLen; omega) rfl
  exact h.rd (show 2 ≤ 281474976710656 by decide)
set_option maxHeartbeats 2000000 in
theorem awake12_any (w : World) (C : Cts12 w) : Calls Try.prog 7 #[] w fun e w' => e = .returned (.bool true) ∧ Still w w' := by
  have G1 := guard_cv
  go_enter Try.func7, Try.ntmps7
  go_wp2_with fail
  refine (C.hit ⟨3, 0, 0, 7⟩ ⟨1, 0, 0, 2⟩ 2 true _ ⟨inN_small (by decide) (by decide), inN_small (by decide) (by decide), inN_small (by decide) (by decide), inN_small (by decide) (by decide)⟩ ⟨inN_small (by decide) (by decide), inN_small (by decide) (by decide), inN_small (by decide) (by decide), inN_small (by decide) (by decide)⟩ (inN_small (by decide) (by decide)) (Fr.refl _ _)).mono ?_
  rintro e w1 ⟨rfl, h1⟩
  obtain ⟨X, eX⟩ : ∃ X, hit1 ⟨3, 0, 0, 7⟩ ⟨1, 0, 0, 2⟩ 2 true = X := ⟨_, rfl⟩
  obtain ⟨Y, eY⟩ : ∃ X, hit2 ⟨3, 0, 0, 7⟩ ⟨1, 0, 0, 2⟩ 2 true = X := ⟨_, rfl⟩
  rw [eX, eY, a12_hit.2.2]
  have E1 : ∀ w, (binOp .eql 23 (cv X) (.agg #[.int .i64 20, .int .i64 1, .int .i64 0, .int .i64 8])).run Try.prog w = .ok (.bool true) w := fun w => by rw [← eX, a12_hit.1]; exact eql_cv_t ⟨20, 1, 0, 8⟩ w
  have E2 : ∀ w, (binOp .eql 23 (cv Y) (.agg #[.int .i64 (-1), .int .i64 0, .int .i64 1, .int .i64 0])).run Try.prog w = .ok (.bool true) w := fun w => by rw [← eY, a12_hit.2.1]; exact eql_cv_t ⟨-1, 0, 1, 0⟩ w
  clear eX eY
  obtain ⟨W1, W2, W3, eW1, eW2, eW3, r1, s2, r3, s3, h3⟩ := pair_exC w1 X Y
  have HS3 := hid (h1.trans h3)
  clear h1 h3
  obtain ⟨k0, k1, k2, k3, kf⟩ := r1.cells
  obtain ⟨l0, l1, l2, l3, lf⟩ := s2.cells
  go_upto_region 2 with fail
  clear eW1 eW2 eW3 r1 s2 k0 k1 k2 k3 kf l0 l1 l2 l3 lf
  go_wp2_with fail
  refine (C.gai ⟨0, 0, 0, 0⟩ 5 _ ⟨inN_small (by decide) (by decide), inN_small (by decide) (by decide), inN_small (by decide) (by decide), inN_small (by decide) (by decide)⟩ (inN_small (by decide) (by decide)) HS3.out).mono ?_
  rintro e w4 ⟨rfl, h4⟩
  rw [a12_gain.1, a12_gain.2]
  have A4 := Still.alloc w4 (.cells (ccs ⟨5, 0, 0, 0⟩) 23)
  have r4 := (r3.still h4).still A4
  have s4 := (s3.still h4).still A4
  have g4 := newC_cb w4 ⟨5, 0, 0, 0⟩
  have HS4 := hid ((HS3.out.trans h4).trans A4)
  have A5 := Still.alloc (newC w4 ⟨5, 0, 0, 0⟩) (.cells #[.int .i64 1, .int .i64 0, .int .i64 0, .int .i64 0, .int .i64 5, .int .i64 0, .int .i64 0, .int .i64 0] 23)
  have HR := hid (rd_twoC (newC w4 ⟨5, 0, 0, 0⟩) ⟨1, 0, 0, 0⟩ ⟨5, 0, 0, 0⟩)
  simp only [size_alloc] at HR
  have HS5 := hid (HS4.out.trans A5)
  have r5 := r4.still A5
  have s5 := s4.still A5
  have g5 := g4.still A5
  clear h4 A4 A5 HS3 HS4 r3 s3 r4 s4 g4
  go_wp2_with fail
  refine (C.rnk [⟨1, 0, 0, 0⟩, ⟨5, 0, 0, 0⟩] _ 2 2 _ (fun i hi => by
    rcases (show i = 0 ∨ i = 1 by simp at hi; omega) with rfl | rfl
    · exact ⟨inN_small (by decide) (by decide), inN_small (by decide) (by decide), inN_small (by decide) (by decide), inN_small (by decide) (by decide)⟩
    · exact ⟨inN_small (by decide) (by decide), inN_small (by decide) (by decide), inN_small (by decide) (by decide), inN_small (by decide) (by decide)⟩) HR.out (Nat.le_refl _) HS5.out).mono ?_
  rintro e w6 ⟨bo, m, cp, rfl, ho, h6, _⟩
  rw [a12_rnk.1] at ho
  rw [a12_rnk.2]
  obtain rfl : m = 2 := ho.rd.len.symm
  obtain ⟨g, rfl⟩ := ho.head (by omega)
  have b0 := ho.rd.byte (k := 0) (by decide)
  have b1 := ho.rd.byte (k := 1) (by decide)
  simp only [Nat.zero_add, Nat.add_zero, List.getElem_cons_zero, List.getElem_cons_succ] at b0 b1
  have HS6 := hid (HS5.out.trans h6)
  have r6 := r5.still h6
  have s6 := s5.still h6
  have g6 := g5.still h6
  clear h6 HS5 r5 s5 g5 HR ho
  obtain ⟨c0, c1, c2, c3, cf⟩ := r6.cells
  obtain ⟨d0, d1, d2, d3, df⟩ := s6.cells
  obtain ⟨e0, e1, e2, e3, ef⟩ := g6.cells
  simp only at e0
  go_wp2_with fail
  refine (C.chk ⟨0, -1, 0, 0⟩ _ ⟨inN_small (by decide) (by decide), inN_small (by decide) (by decide), inN_small (by decide) (by decide), inN_small (by decide) (by decide)⟩ HS6.out).mono ?_
  rintro e w7 ⟨rfl, h7⟩
  rw [a12_chk]
  have HS7 := hid (HS6.out.trans h7)
  clear h7 HS6 r6 s6 g6 c0 c1 c2 c3 cf d0 d1 d2 d3 df e0 e1 e2 e3 ef b0 b1
  go_wp2_with fail
  go_ret
  exact ⟨rfl, HS7.out⟩
set_option maxHeartbeats 4000000 in
theorem hits_law (a b : Scr) (n : Int) (out : Bool) (ha : InC a) (hb : InC b) (hn : InN n) (w : World) (C : Cts12 w) : Calls Try.prog 3 #[cv a, cv b, .int .i64 n, .bool out] w fun e w' => e = .returned (.bool true) ∧ Still w w' := by
  have A0 := Still.alloc w (.cells (ccs a) 23)
  have A1 := Still.alloc (newC w a) (.cells (ccs b) 23)
  have p0 := (newC_cb w a).still A1
  have q0 := newC_cb (newC w a) b
  simp only [size_alloc] at q0
  have HS0 := hid (A0.trans A1)
  have HI := hid (And.intro ha (And.intro hb hn))
  have G1 := guard_cv
  clear A0 A1 ha hb hn
  go_enter Try.func3, Try.ntmps3
  go_wp2_with fail
  refine (awake12_any _ (C.still HS0.out)).mono ?_
  rintro e w1 ⟨rfl, h1⟩
  have p1 := p0.still h1
  have q1 := q0.still h1
  have HS1 := hid (HS0.out.trans h1)
  clear h1 HS0 p0 q0
  obtain ⟨c0, c1, c2, c3, cf⟩ := p1.cells
  obtain ⟨d0, d1, d2, d3, df⟩ := q1.cells
  have HF := hid (fun u => rhit12_any a b n out u)
  have HG := hid (fun u => rgain_any a n u)
  have HC1 := hid (fun (u : World) (hu : Still w u) => C.chk a u HI.out.1 hu)
  have HC2 := hid (fun u => rchk12_any a u)
  have HP := hid (C.hit a b n out _ HI.out.1 HI.out.2.1 HI.out.2.2 HS1.out)
  have HQ := hid (fun u hu => C.gai a n u HI.out.1 HI.out.2.2 hu)
  obtain ⟨X, eX⟩ : ∃ X, hit1 a b n out = X := ⟨_, rfl⟩
  obtain ⟨Y, eY⟩ : ∃ X, hit2 a b n out = X := ⟨_, rfl⟩
  obtain ⟨E, eE⟩ : ∃ X, errC a b n = X := ⟨_, rfl⟩
  obtain ⟨Z, eZ⟩ : ∃ X, gain a n = X := ⟨_, rfl⟩
  obtain ⟨F, eF⟩ : ∃ X, errG a n = X := ⟨_, rfl⟩
  obtain ⟨K, eK⟩ : ∃ X, chkC a = X := ⟨_, rfl⟩
  rw [eX, eY, eE] at HF HP
  rw [eZ, eF] at HG HQ
  rw [eK] at HC1 HC2
  clear eX eY eE eZ eF eK
  have E1 := eql_cv_t X
  have E2 := eql_cv_t Y
  have E3 := eql_cv_t Z
  go_wp2_with fail
  refine HP.out.mono ?_
  rintro e w2 ⟨rfl, h2⟩
  obtain ⟨W1, W2, W3, eW1, eW2, eW3, r1, s2, r3, s3, h3⟩ := pair_exC w2 X Y
  have p3 := (p1.still h2).still h3
  have q3 := (q1.still h2).still h3
  have HS3 := hid ((HS1.out.trans h2).trans h3)
  clear h2 h3 HS1 HP p1 q1 c0 c1 c2 c3 cf d0 d1 d2 d3 df
  obtain ⟨k0, k1, k2, k3, kf⟩ := r1.cells
  obtain ⟨l0, l1, l2, l3, lf⟩ := s2.cells
  obtain ⟨x, ex⟩ : ∃ x, w2.heap.size = x := ⟨_, rfl⟩
  rw [ex] at eW2 eW3 r3 s3 k0 k1 k2 k3 kf l0 l1 l2 l3 lf
  go_upto_region 3 with fail
  clear eW1 eW2 eW3 r1 s2 k0 k1 k2 k3 kf l0 l1 l2 l3 lf ex
  obtain ⟨c0, c1, c2, c3, cf⟩ := p3.cells
  obtain ⟨d0, d1, d2, d3, df⟩ := q3.cells
  go_wp2_with fail
  refine (HF.out _).mono ?_
  rintro e w4 ⟨rfl, h4⟩
  obtain ⟨V1, V2, V3, eV1, eV2, eV3, t1, u2, t3, u3, h5⟩ := pair_exC w4 X Y
  have p4 := (p3.still h4).still h5
  have r4 := (r3.still h4).still h5
  have s4 := (s3.still h4).still h5
  have HS4 := hid ((HS3.out.trans h4).trans h5)
  clear h4 h5 HS3 HF p3 q3 r3 s3 c0 c1 c2 c3 cf d0 d1 d2 d3 df
  obtain ⟨k0, k1, k2, k3, kf⟩ := t1.cells
  obtain ⟨l0, l1, l2, l3, lf⟩ := u2.cells
  obtain ⟨y, ey⟩ : ∃ x, w4.heap.size = x := ⟨_, rfl⟩
  rw [ey] at eV2 eV3 t3 u3 k0 k1 k2 k3 kf l0 l1 l2 l3 lf
  go_upto_region 4 with fail
  clear eV1 eV2 eV3 t1 u2 k0 k1 k2 k3 kf l0 l1 l2 l3 lf ey
  obtain ⟨c0, c1, c2, c3, cf⟩ := p4.cells
  go_wp2_with fail
  refine (HQ.out _ HS4.out).mono ?_
  rintro e w5 ⟨rfl, h5⟩
  have A5 := Still.alloc w5 (.cells (ccs Z) 23)
  have p5 := (p4.still h5).still A5
  have r5 := (r4.still h5).still A5
  have s5 := (s4.still h5).still A5
  have t5 := (t3.still h5).still A5
  have u5 := (u3.still h5).still A5
  have z5 := newC_cb w5 Z
  have HS5 := hid ((HS4.out.trans h5).trans A5)
  clear h5 A5 HS4 p4 r4 s4 t3 u3 c0 c1 c2 c3 cf HQ
  obtain ⟨c0, c1, c2, c3, cf⟩ := p5.cells
  go_wp2_with fail
  refine (HG.out _).mono ?_
  rintro e w6 ⟨rfl, h6⟩
  have A6 := Still.alloc w6 (.cells (ccs Z) 23)
  have p6 := (p5.still h6).still A6
  have r6 := (r5.still h6).still A6
  have s6 := (s5.still h6).still A6
  have t6 := (t5.still h6).still A6
  have u6 := (u5.still h6).still A6
  have z6 := (z5.still h6).still A6
  have y6 := newC_cb w6 Z
  have HS6 := hid ((HS5.out.trans h6).trans A6)
  obtain ⟨W6, eW6⟩ : ∃ W, w6.alloc (.cells (ccs Z) 23) = W := ⟨_, rfl⟩
  rw [eW6] at p6 r6 s6 t6 u6 z6 HS6
  have y6' : Cb W6 w6.heap.size Z := by rw [← eW6]; exact y6
  clear h6 A6 HS5 p5 r5 s5 t5 u5 z5 c0 c1 c2 c3 cf HG y6
  go_upto_region 6 with fail
  clear eW6
  have a0 := Cl.cell p6.cells.1
  have a1 := Cl.cell p6.cells.2.1
  have a2 := Cl.cell p6.cells.2.2.1
  have a3 := Cl.cell p6.cells.2.2.2.1
  have b0 := Cl.cell r6.cells.1
  have b1 := Cl.cell r6.cells.2.1
  have b2 := Cl.cell r6.cells.2.2.1
  have b3 := Cl.cell r6.cells.2.2.2.1
  have c0 := Cl.cell s6.cells.1
  have c1 := Cl.cell s6.cells.2.1
  have c2 := Cl.cell s6.cells.2.2.1
  have c3 := Cl.cell s6.cells.2.2.2.1
  have d0 := Cl.cell t6.cells.1
  have d1 := Cl.cell t6.cells.2.1
  have d2 := Cl.cell t6.cells.2.2.1
  have d3 := Cl.cell t6.cells.2.2.2.1
  have f0 := Cl.cell u6.cells.1
  have f1 := Cl.cell u6.cells.2.1
  have f2 := Cl.cell u6.cells.2.2.1
  have f3 := Cl.cell u6.cells.2.2.2.1
  have g0 := Cl.cell z6.cells.1
  have g1 := Cl.cell z6.cells.2.1
  have g2 := Cl.cell z6.cells.2.2.1
  have g3 := Cl.cell z6.cells.2.2.2.1
  have m0 := Cl.cell y6'.cells.1
  have m1 := Cl.cell y6'.cells.2.1
  have m2 := Cl.cell y6'.cells.2.2.1
  have m3 := Cl.cell y6'.cells.2.2.2.1
  have hne := Aft.here W6
  clear p6 r6 s6 t6 u6 z6 y6'
  refine region_all (by kernel_rfl) (by kernel_rfl) ?_
  repeat (go_big_quiet_step ((first | (go_at_call 12; exact Calls.cl (HC1.out _ (HS6.out.trans (Aft.s _)))) | (go_at_call 13; exact Calls.cl (HC2.out _)))))
  refine wpQuiet_nil ?_
  intro w7 h7
  have HS7 := hid (HS6.out.trans h7)
  clear h7 HS6
  go_wp2_with fail
  go_ret
  exact ⟨rfl, HS7.out⟩
end Go.Proofs.Ytgkojpgpnkeacaa
