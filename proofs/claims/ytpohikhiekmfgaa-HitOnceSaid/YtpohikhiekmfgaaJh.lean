/- Two movers that a call answers; the bundle; apart twice is as nothing. -/
import Derived.Test.YtpohikhiekmfgaaJd
import Derived.Test.YtpohikhiekmfgaaJe
import Derived.Test.YtpohikhiekmfgaaJf
import Derived.Test.YtpohikhiekmfgaaJg
namespace Go.Proofs.Ytpohikhiekmfgaa
open Go.RowKit
open Pu Gp Ap Vp Np Za Ka Ja
set_option maxRecDepth 100000

/-- 'x, y := f()': two new blocks, and what is stored into them -/
theorem pair_ex (w : World) (X Y : Mv) : ∃ W1 W2 W3, (w.alloc (.cells #[.int .i64 0, .int .i64 0, .int .i64 0, .int .i64 0, .int .i64 0, .int .i64 0, .int .i64 0, .int .i64 0, .int .i64 0, .bool false, .int .i64 0, .int .i64 0, .int .i64 0] 35)).alloc (.cells #[.int .i64 0, .int .i64 0, .int .i64 0, .int .i64 0, .int .i64 0, .int .i64 0, .int .i64 0, .int .i64 0, .int .i64 0, .bool false, .int .i64 0, .int .i64 0, .int .i64 0] 35) = W1 ∧ (((((((((((((W1.setCell ⟨w.heap.size, 0, none⟩ (.int .i64 X.ax)).setCell ⟨w.heap.size, 1, none⟩ (.int .i64 X.ay)).setCell ⟨w.heap.size, 2, none⟩ (.int .i64 X.sx)).setCell ⟨w.heap.size, 3, none⟩ (.int .i64 X.sy)).setCell ⟨w.heap.size, 4, none⟩ (.int .i64 X.px)).setCell ⟨w.heap.size, 5, none⟩ (.int .i64 X.py)).setCell ⟨w.heap.size, 6, none⟩ (.int .i64 X.fc)).setCell ⟨w.heap.size, 7, none⟩ (.int .i64 X.hl)).setCell ⟨w.heap.size, 8, none⟩ (.int .i64 X.en)).setCell ⟨w.heap.size, 9, none⟩ (.bool X.sh)).setCell ⟨w.heap.size, 10, none⟩ (.int .i64 X.co)).setCell ⟨w.heap.size, 11, none⟩ (.int .i64 X.ou)).setCell ⟨w.heap.size, 12, none⟩ (.int .i64 X.sd)) = W2 ∧ (((((((((((((W2.setCell ⟨w.heap.size + 1, 0, none⟩ (.int .i64 Y.ax)).setCell ⟨w.heap.size + 1, 1, none⟩ (.int .i64 Y.ay)).setCell ⟨w.heap.size + 1, 2, none⟩ (.int .i64 Y.sx)).setCell ⟨w.heap.size + 1, 3, none⟩ (.int .i64 Y.sy)).setCell ⟨w.heap.size + 1, 4, none⟩ (.int .i64 Y.px)).setCell ⟨w.heap.size + 1, 5, none⟩ (.int .i64 Y.py)).setCell ⟨w.heap.size + 1, 6, none⟩ (.int .i64 Y.fc)).setCell ⟨w.heap.size + 1, 7, none⟩ (.int .i64 Y.hl)).setCell ⟨w.heap.size + 1, 8, none⟩ (.int .i64 Y.en)).setCell ⟨w.heap.size + 1, 9, none⟩ (.bool Y.sh)).setCell ⟨w.heap.size + 1, 10, none⟩ (.int .i64 Y.co)).setCell ⟨w.heap.size + 1, 11, none⟩ (.int .i64 Y.ou)).setCell ⟨w.heap.size + 1, 12, none⟩ (.int .i64 Y.sd)) = W3 ∧ Mb W1 w.heap.size zM ∧ Mb W2 (w.heap.size + 1) zM ∧ Mb W3 w.heap.size X ∧ Mb W3 (w.heap.size + 1) Y ∧ Still w W3 := by
  have B1 := Still.alloc w (.cells (mcs zM) 35)
  have B2 := Still.alloc (newM w zM) (.cells (mcs zM) 35)
  have r1 := (newM_mb w zM).still B2
  have s1 := newM_mb (newM w zM) zM
  simp only [size_alloc] at s1
  have h1 := B1.trans B2
  obtain ⟨W1, eW1⟩ : ∃ W, (w.alloc (.cells (mcs zM) 35)).alloc (.cells (mcs zM) 35) = W := ⟨_, rfl⟩
  have r1' : Mb W1 w.heap.size zM := by rw [← eW1]; exact r1
  have s1' : Mb W1 (w.heap.size + 1) zM := by rw [← eW1]; exact s1
  have h1' : Still w W1 := by rw [← eW1]; exact h1
  have r2 := r1'.put (X.ax) (X.ay) (X.sx) (X.sy) (X.px) (X.py) (X.fc) (X.hl) (X.en) (X.sh) (X.co) (X.ou) (X.sd)
  have s2 := s1'.others (k := w.heap.size) (by omega) (X.ax) (X.ay) (X.sx) (X.sy) (X.px) (X.py) (X.fc) (X.hl) (X.en) (X.sh) (X.co) (X.ou) (X.sd)
  have h2 := setC_fr (setC_fr (setC_fr (setC_fr (setC_fr (setC_fr (setC_fr (setC_fr (setC_fr (setC_fr (setC_fr (setC_fr (setC_fr (h1') (w.heap.size) 0 (.int .i64 X.ax) (Nat.le_refl _)) (w.heap.size) 1 (.int .i64 X.ay) (Nat.le_refl _)) (w.heap.size) 2 (.int .i64 X.sx) (Nat.le_refl _)) (w.heap.size) 3 (.int .i64 X.sy) (Nat.le_refl _)) (w.heap.size) 4 (.int .i64 X.px) (Nat.le_refl _)) (w.heap.size) 5 (.int .i64 X.py) (Nat.le_refl _)) (w.heap.size) 6 (.int .i64 X.fc) (Nat.le_refl _)) (w.heap.size) 7 (.int .i64 X.hl) (Nat.le_refl _)) (w.heap.size) 8 (.int .i64 X.en) (Nat.le_refl _)) (w.heap.size) 9 (.bool X.sh) (Nat.le_refl _)) (w.heap.size) 10 (.int .i64 X.co) (Nat.le_refl _)) (w.heap.size) 11 (.int .i64 X.ou) (Nat.le_refl _)) (w.heap.size) 12 (.int .i64 X.sd) (Nat.le_refl _)
  refine ⟨W1, _, _, eW1, rfl, rfl, r1', s2, ?_, ?_, ?_⟩
  · exact r2.others (k := w.heap.size + 1) (by omega) (Y.ax) (Y.ay) (Y.sx) (Y.sy) (Y.px) (Y.py) (Y.fc) (Y.hl) (Y.en) (Y.sh) (Y.co) (Y.ou) (Y.sd)
  · exact s2.put (Y.ax) (Y.ay) (Y.sx) (Y.sy) (Y.px) (Y.py) (Y.fc) (Y.hl) (Y.en) (Y.sh) (Y.co) (Y.ou) (Y.sd)
  · exact setC_fr (setC_fr (setC_fr (setC_fr (setC_fr (setC_fr (setC_fr (setC_fr (setC_fr (setC_fr (setC_fr (setC_fr (setC_fr (h2) (w.heap.size + 1) 0 (.int .i64 Y.ax) (Nat.le_succ _)) (w.heap.size + 1) 1 (.int .i64 Y.ay) (Nat.le_succ _)) (w.heap.size + 1) 2 (.int .i64 Y.sx) (Nat.le_succ _)) (w.heap.size + 1) 3 (.int .i64 Y.sy) (Nat.le_succ _)) (w.heap.size + 1) 4 (.int .i64 Y.px) (Nat.le_succ _)) (w.heap.size + 1) 5 (.int .i64 Y.py) (Nat.le_succ _)) (w.heap.size + 1) 6 (.int .i64 Y.fc) (Nat.le_succ _)) (w.heap.size + 1) 7 (.int .i64 Y.hl) (Nat.le_succ _)) (w.heap.size + 1) 8 (.int .i64 Y.en) (Nat.le_succ _)) (w.heap.size + 1) 9 (.bool Y.sh) (Nat.le_succ _)) (w.heap.size + 1) 10 (.int .i64 Y.co) (Nat.le_succ _)) (w.heap.size + 1) 11 (.int .i64 Y.ou) (Nat.le_succ _)) (w.heap.size + 1) 12 (.int .i64 Y.sd) (Nat.le_succ _)
/-- The program's functions answer as the plain words say, in whatever world follows w. -/
structure Cts11 (w : World) : Prop where
  bod : ∀ (L : List Mv) (ao : Option Addr) (n cap : Nat) (u : World), RdG KM u ao n L → n ≤ cap → Still w u → Calls Try.prog 10 #[.slice ao n cap] u fun e w' => ∃ v, e = .returned (.tuple #[v, .int .i64 (err11 (togB L))]) ∧ OwG KT 47 w' u.heap.size v (bod L) ∧ Still u w'
  apt : ∀ (a b : Mv) (u : World), Still w u → Calls Try.prog 15 #[mv a, mv b] u fun e w' => e = .returned (.tuple #[mv (aptA a b), mv (aptA b a), .int .i64 (err11 (aptE a b))]) ∧ Still u w'
  sho : ∀ (L : List Mv) (S : List Sh) (ao : Option Addr) (n cap : Nat) (so : Option Addr) (r scap : Nat) (u : World), RdG KM u ao n L → RdG KS u so r S → n ≤ cap → r ≤ scap → Still w u → Calls Try.prog 17 #[.slice ao n cap, .slice so r scap] u fun e w' => ∃ v, e = .returned (.tuple #[v, .int .i64 (err11 (shoE L S))]) ∧ OwG KT 47 w' u.heap.size v (sho L S) ∧ Still u w'
  pic : ∀ (L : List Mv) (Q : List Pk) (T : List (Int × Int)) (ao : Option Addr) (n cap : Nat) (po : Option Addr) (r pcap : Nat) (xo : Option Addr) (t tcap : Nat) (u : World), RdG KM u ao n L → RdK u po r Q → RdG KT u xo t T → n ≤ cap → r ≤ pcap → t ≤ tcap → Still w u → Calls Try.prog 19 #[.slice ao n cap, .slice po r pcap, .slice xo t tcap] u fun e w' => ∃ v, e = .returned (.tuple #[v, .int .i64 (err11 (picE L Q T))]) ∧ OwG KT 47 w' u.heap.size v (pic L Q T) ∧ Still u w'
theorem Cts11.still {w w' : World} (h : Cts11 w) (hs : Still w w') : Cts11 w' :=
  ⟨fun L ao n cap u a b k => h.bod L ao n cap u a b (hs.trans k), fun a b u k => h.apt a b u (hs.trans k), fun L S ao n cap so r sc u a b c d k => h.sho L S ao n cap so r sc u a b c d (hs.trans k), fun L Q T ao n cap po r pc xo t tc u a b c d e f k => h.pic L Q T ao n cap po r pc xo t tc u a b c d e f (hs.trans k)⟩
/-- the examples, as the laws ask them -/
def Awake (w : World) : Prop := ∀ u, Still w u → Calls Try.prog 8 #[] u fun e w' => e = .returned (.bool true) ∧ Still u w'
theorem apt_may {a b : Mv} (h : aptE a b = true) : (-1024 ≤ a.sx ∧ a.sx ≤ 1024 ∧ -1024 ≤ a.sy ∧ a.sy ≤ 1024) ∧ (-1024 ≤ b.sx ∧ b.sx ≤ 1024 ∧ -1024 ≤ b.sy ∧ b.sy ≤ 1024) := by
  unfold aptE at h
  rw [Bool.and_eq_true] at h
  exact ⟨(mayB_iff.1 h.1).2.1, (mayB_iff.1 h.2).2.1⟩
set_option maxHeartbeats 4000000 in
theorem apart_law (a b : Mv) (w : World) (C : Cts11 w) (U : Awake w) : Calls Try.prog 7 #[mv a, mv b] w fun e w' => e = .returned (.bool true) ∧ Still w w' := by
  have A0 := Still.alloc w (.cells (mcs a) 35)
  have A1 := Still.alloc (newM w a) (.cells (mcs b) 35)
  have p0 := (newM_mb w a).still A1
  have q0 := newM_mb (newM w a) b
  simp only [size_alloc] at q0
  have HS0 := hid (A0.trans A1)
  have G1 := guard_mv
  have G2 := guard_pt
  clear A0 A1
  go_enter Try.func7, Try.ntmps7
  go_wp2_with fail
  refine (U _ HS0.out).mono ?_
  rintro e w1 ⟨rfl, h1⟩
  have p1 := p0.still h1
  have q1 := q0.still h1
  have HS1 := hid (HS0.out.trans h1)
  clear h1 HS0 p0 q0
  obtain ⟨c0, c1, c2, c3, c4, c5, c6, c7, c8, c9, c10, c11, c12, cf⟩ := p1.cells
  obtain ⟨d0, d1, d2, d3, d4, d5, d6, d7, d8, d9, d10, d11, d12, df⟩ := q1.cells
  go_wp2_with fail
  refine (C.apt a b _ HS1.out).mono ?_
  rintro e w2 ⟨rfl, h2⟩
  cases he : aptE a b with
  | false =>
    have e1 : aptA a b = zM := by unfold aptA; rw [he]; rfl
    have e2 : aptA b a = zM := by unfold aptA aptE; rw [Bool.and_comm]; unfold aptE at he; rw [he]; rfl
    obtain ⟨X, eX⟩ : ∃ X, aptA a b = X := ⟨_, rfl⟩
    obtain ⟨Y, eY⟩ : ∃ X, aptA b a = X := ⟨_, rfl⟩
    rw [eX] at e1 ⊢
    rw [eY] at e2 ⊢
    have E1 : ∀ w, (binOp .eql 35 (mv X) (.agg #[.int .i64 0, .int .i64 0, .int .i64 0, .int .i64 0, .int .i64 0, .int .i64 0, .int .i64 0, .int .i64 0, .int .i64 0, .bool false, .int .i64 0, .int .i64 0, .int .i64 0])).run Try.prog w = .ok (.bool true) w := fun w => by rw [e1]; exact eql_mv_t zM w
    have E2 : ∀ w, (binOp .eql 35 (mv Y) (.agg #[.int .i64 0, .int .i64 0, .int .i64 0, .int .i64 0, .int .i64 0, .int .i64 0, .int .i64 0, .int .i64 0, .int .i64 0, .bool false, .int .i64 0, .int .i64 0, .int .i64 0])).run Try.prog w = .ok (.bool true) w := fun w => by rw [e2]; exact eql_mv_t zM w
    clear e1 e2 he eX eY
    obtain ⟨W1, W2, W3, eW1, eW2, eW3, r1, s2, r3, s3, h3⟩ := pair_ex w2 X Y
    have HS3 := hid ((HS1.out.trans h2).trans h3)
    clear h2 h3 HS1 p1 q1 c0 c1 c2 c3 c4 c5 c6 c7 c8 c9 c10 c11 c12 cf d0 d1 d2 d3 d4 d5 d6 d7 d8 d9 d10 d11 d12 df
    obtain ⟨k0, k1, k2, k3, k4, k5, k6, k7, k8, k9, k10, k11, k12, kf⟩ := r1.cells
    obtain ⟨l0, l1, l2, l3, l4, l5, l6, l7, l8, l9, l10, l11, l12, lf⟩ := s2.cells
    go_upto_region 3 with fail
    clear eW1 eW2 eW3 r1 s2 k0 k1 k2 k3 k4 k5 k6 k7 k8 k9 k10 k11 k12 kf l0 l1 l2 l3 l4 l5 l6 l7 l8 l9 l10 l11 l12 lf
    obtain ⟨c0, c1, c2, c3, c4, c5, c6, c7, c8, c9, c10, c11, c12, cf⟩ := r3.cells
    obtain ⟨d0, d1, d2, d3, d4, d5, d6, d7, d8, d9, d10, d11, d12, df⟩ := s3.cells
    have e110 : err11 false = 110 := rfl
    go_wp2_with fail
    go_ret
    exact ⟨rfl, HS3.out⟩
  | true =>
    obtain ⟨t1, t2⟩ := apt_twice he
    have hc : aptE b a = true := by unfold aptE at he ⊢; rw [Bool.and_comm]; exact he
    have t3 := (apt_twice hc).2
    obtain ⟨u1, u2, u3, u4⟩ := apt_sum he
    obtain ⟨_, _, v3, v4⟩ := apt_sum hc
    obtain ⟨m1, m2⟩ := apt_may he
    obtain ⟨m3, m4⟩ := apt_may t1
    have HA := hid (fun u hu => C.apt (aptA a b) (aptA b a) u hu)
    rw [t2, t3, t1] at HA
    obtain ⟨X, eX⟩ : ∃ X, aptA a b = X := ⟨_, rfl⟩
    obtain ⟨Y, eY⟩ : ∃ X, aptA b a = X := ⟨_, rfl⟩
    rw [eX] at u1 u2 u3 u4 HA m3 ⊢
    rw [eY] at u1 u2 v3 v4 HA m4 ⊢
    clear eX eY t1 t2 t3 he hc
    obtain ⟨W1, W2, W3, eW1, eW2, eW3, r1, s2, r3, s3, h3⟩ := pair_ex w2 X Y
    have p3 := (p1.still h2).still h3
    have q3 := (q1.still h2).still h3
    have HS3 := hid ((HS1.out.trans h2).trans h3)
    clear h2 h3 HS1 p1 q1 c0 c1 c2 c3 c4 c5 c6 c7 c8 c9 c10 c11 c12 cf d0 d1 d2 d3 d4 d5 d6 d7 d8 d9 d10 d11 d12 df
    obtain ⟨k0, k1, k2, k3, k4, k5, k6, k7, k8, k9, k10, k11, k12, kf⟩ := r1.cells
    obtain ⟨l0, l1, l2, l3, l4, l5, l6, l7, l8, l9, l10, l11, l12, lf⟩ := s2.cells
    have e0 : err11 true = 0 := rfl
    have HU := hid (And.intro u1 (And.intro u2 (And.intro u3 (And.intro u4 (And.intro v3 v4)))))
    have HM := hid (And.intro m1 (And.intro m2 (And.intro m3 m4)))
    clear u1 u2 u3 u4 v3 v4 m1 m2 m3 m4
    go_upto_region 3 with fail
    clear eW1 eW2 eW3 r1 s2 k0 k1 k2 k3 k4 k5 k6 k7 k8 k9 k10 k11 k12 kf l0 l1 l2 l3 l4 l5 l6 l7 l8 l9 l10 l11 l12 lf
    obtain ⟨c0, c1, c2, c3, c4, c5, c6, c7, c8, c9, c10, c11, c12, cf⟩ := r3.cells
    obtain ⟨d0, d1, d2, d3, d4, d5, d6, d7, d8, d9, d10, d11, d12, df⟩ := s3.cells
    go_wp2_with fail
    refine (HA.out _ HS3.out).mono ?_
    rintro e w4 ⟨rfl, h4⟩
    obtain ⟨V1, V2, V3, eV1, eV2, eV3, x1, y2, x3, y3, h5⟩ := pair_ex w4 a b
    have p5 := (p3.still h4).still h5
    have q5 := (q3.still h4).still h5
    have r5 := (r3.still h4).still h5
    have s5 := (s3.still h4).still h5
    have HS5 := hid ((HS3.out.trans h4).trans h5)
    clear h4 h5 HS3 p3 q3 r3 s3 HA c0 c1 c2 c3 c4 c5 c6 c7 c8 c9 c10 c11 c12 cf d0 d1 d2 d3 d4 d5 d6 d7 d8 d9 d10 d11 d12 df
    obtain ⟨k0, k1, k2, k3, k4, k5, k6, k7, k8, k9, k10, k11, k12, kf⟩ := x1.cells
    obtain ⟨l0, l1, l2, l3, l4, l5, l6, l7, l8, l9, l10, l11, l12, lf⟩ := y2.cells
    go_upto_region 6 with fail
    clear eV1 eV2 eV3 x1 y2 k0 k1 k2 k3 k4 k5 k6 k7 k8 k9 k10 k11 k12 kf l0 l1 l2 l3 l4 l5 l6 l7 l8 l9 l10 l11 l12 lf
    obtain ⟨c0, c1, c2, c3, c4, c5, c6, c7, c8, c9, c10, c11, c12, cf⟩ := p5.cells
    obtain ⟨d0, d1, d2, d3, d4, d5, d6, d7, d8, d9, d10, d11, d12, df⟩ := q5.cells
    obtain ⟨k0, k1, k2, k3, k4, k5, k6, k7, k8, k9, k10, k11, k12, kf⟩ := r5.cells
    obtain ⟨l0, l1, l2, l3, l4, l5, l6, l7, l8, l9, l10, l11, l12, lf⟩ := s5.cells
    obtain ⟨g0, g1, g2, g3, g4, g5, g6, g7, g8, g9, g10, g11, g12, gf⟩ := x3.cells
    obtain ⟨j0, j1, j2, j3, j4, j5, j6, j7, j8, j9, j10, j11, j12, jf⟩ := y3.cells
    have E1 := eql_mv_t a
    have E2 := eql_mv_t b
    have hm := HM.out
    have h1 : ((X.sx + Y.sx : Int) == a.sx + b.sx) = true := by simpa using HU.out.1
    have h2 : ((X.sy + Y.sy : Int) == a.sy + b.sy) = true := by simpa using HU.out.2.1
    have P1 := eql_pt_t HU.out.2.2.1 HU.out.2.2.2.1
    have P2 := eql_pt_t HU.out.2.2.2.2.1 HU.out.2.2.2.2.2
    obtain ⟨xsx, e1⟩ : ∃ z, X.sx = z := ⟨_, rfl⟩
    obtain ⟨xsy, e2⟩ : ∃ z, X.sy = z := ⟨_, rfl⟩
    obtain ⟨ysx, e3⟩ : ∃ z, Y.sx = z := ⟨_, rfl⟩
    obtain ⟨ysy, e4⟩ : ∃ z, Y.sy = z := ⟨_, rfl⟩
    rw [e1] at h1 k2 hm
    rw [e2] at h2 k3 hm
    rw [e3] at h1 l2 hm
    rw [e4] at h2 l3 hm
    clear e1 e2 e3 e4
    obtain ⟨⟨ma1, ma2, ma3, ma4⟩, ⟨mb1, mb2, mb3, mb4⟩, ⟨mx1, mx2, mx3, mx4⟩, my1, my2, my3, my4⟩ := hm
    go_wp2_with fail
    go_ret
    exact ⟨rfl, HS5.out⟩
end Go.Proofs.Ytpohikhiekmfgaa
