/- The laws on cells, slides, rays. -/
import Derived.Test.YtnoaomocdmkigaaAw
import Derived.Test.YtnoaomocdmkigaaTo
import Derived.Test.YtnoaomocdmkigaaRy
namespace Go.Proofs.Ytnoaomocdmkigaa
open Go.RowKit
open Pu Gp Ap

set_option maxHeartbeats 4000000 in
theorem cells_law (C R : Int) (s : ByteArray) (col row x y z u : Int) (hC : C ≤ 9223372036854775807) (hz : s.size ≤ 140737488355328) (w : World) :
    Calls Try.prog 6 #[ar C R s, .int .i64 col, .int .i64 row, bx x y z u] w fun e w' => e = .returned (.bool true) ∧ Still w w' := by
  have p0 := (newA_ab w C R s).still (Still.alloc _ (.cells #[.int .i64 x, .int .i64 y, .int .i64 z, .int .i64 u] 42))
  have q0 := newB_bb (newA w C R s) x y z u
  simp only [size_alloc] at q0
  have HS0 := hid ((Still.alloc w (.cells #[.int .i64 C, .int .i64 R, .string s] 24)).trans (Still.alloc (newA w C R s) (.cells #[.int .i64 x, .int .i64 y, .int .i64 z, .int .i64 u] 42)))
  have H1 := hid (fun u => solid_any C R col row s (by omega) u)
  have H2 := hid (fun u => rsolid_any C R col row s (by omega) hC u)
  have H3 := hid (fun v => touches_any C R x y z u s (by omega) v)
  have H4 := hid (fun v => rtouches_any C R x y z u s (by omega) hC v)
  obtain ⟨b1, e1⟩ : ∃ b, solB C R s col row = b := ⟨_, rfl⟩
  obtain ⟨b2, e2⟩ : ∃ b, touB C R s x y z u = b := ⟨_, rfl⟩
  rw [e1] at H1 H2
  rw [e2] at H3 H4
  clear e1 e2
  go_enter Try.func6, Try.ntmps6
  go_wp2_with fail
  refine (awake_any _).mono ?_
  rintro e w1 ⟨rfl, h1⟩
  have p1 := p0.still h1
  have q1 := q0.still h1
  have HS1 := hid (HS0.out.trans h1)
  clear p0 q0 HS0 h1
  have c0 := Cl.cell p1.cells.1
  have c1 := Cl.cell p1.cells.2.1
  have c2 := Cl.cell p1.cells.2.2.1
  have d0 := Cl.cell q1.cells.1
  have d1 := Cl.cell q1.cells.2.1
  have d2 := Cl.cell q1.cells.2.2.1
  have d3 := Cl.cell q1.cells.2.2.2.1
  have hne := Aft.here w1
  cases b1 <;> cases b2
  all_goals
    go_wp2_with fail
    refine region_all (by kernel_rfl) (by kernel_rfl) ?_
    repeat (go_big_quiet_step ((first | (go_at_call 23; exact Calls.cl (H1.out _)) | (go_at_call 24; exact Calls.cl (H2.out _)) | (go_at_call 25; exact Calls.cl (H3.out _)) | (go_at_call 26; exact Calls.cl (H4.out _)))))
    refine wpQuiet_nil ?_
    intro w2 h2
    go_wp2_with fail
    go_ret
    exact ⟨rfl, HS1.out.trans h2⟩
set_option maxHeartbeats 4000000 in
theorem slides_law (C R : Int) (s : ByteArray) (x y p q n : Int) (hC : C ≤ 9223372036854775807) (hz : s.size ≤ 140737488355328) (w : World) :
    Calls Try.prog 7 #[ar C R s, pt x y, pt p q, .int .i64 n] w fun e w' => e = .returned (.bool true) ∧ Still w w' := by
  have A1 := Still.alloc (newA w C R s) (.cells #[.int .i64 x, .int .i64 y] 36)
  have A2 := Still.alloc (newP (newA w C R s) x y) (.cells #[.int .i64 p, .int .i64 q] 36)
  have a0 := ((newA_ab w C R s).still A1).still A2
  have b0 := (newP_pb (newA w C R s) x y).still A2
  have d0 := newP_pb (newP (newA w C R s) x y) p q
  simp only [size_alloc] at b0 d0
  have HS0 := hid (((Still.alloc w (.cells #[.int .i64 C, .int .i64 R, .string s] 24)).trans A1).trans A2)
  clear A1 A2
  obtain ⟨X, eX⟩ : ∃ X, bnd x = X := ⟨_, rfl⟩
  obtain ⟨Y, eY⟩ : ∃ Y, bnd y = Y := ⟨_, rfl⟩
  obtain ⟨P, eP⟩ : ∃ P, stp p = P := ⟨_, rfl⟩
  obtain ⟨Q, eQ⟩ : ∃ Q, stp q = Q := ⟨_, rfl⟩
  obtain ⟨r, er⟩ : ∃ r, clampf n 0 4096 = r := ⟨_, rfl⟩
  obtain ⟨k, ek⟩ : ∃ k, kX (solB C R s) r X Y P = k := ⟨_, rfl⟩
  obtain ⟨X1, eX1⟩ : ∃ X1, addf X (sgn P * (k : Int)) = X1 := ⟨_, rfl⟩
  obtain ⟨Y1, eY1⟩ : ∃ Y1, addf Y 0 = Y1 := ⟨_, rfl⟩
  obtain ⟨l, el⟩ : ∃ l, kY (solB C R s) r X1 Y1 Q = l := ⟨_, rfl⟩
  obtain ⟨X2, eX2⟩ : ∃ X2, addf X1 0 = X2 := ⟨_, rfl⟩
  obtain ⟨Y2, eY2⟩ : ∃ Y2, addf Y1 (sgn Q * (l : Int)) = Y2 := ⟨_, rfl⟩
  have H1 := hid (fun u => slide_any C R x y p q n s (by omega) X Y P Q r X1 Y1 X2 Y2 k l eX eY eP eQ er ek eX1 eY1 el eX2 eY2 u)
  have H2 := hid (fun u => rslide_any C R x y p q n s (by omega) hC X Y P Q r X1 Y1 X2 Y2 k l eX eY eP eQ er ek eX1 eY1 el eX2 eY2 u)
  obtain ⟨N, eN⟩ : ∃ N, side k P.natAbs l Q.natAbs = N := ⟨_, rfl⟩
  rw [eN] at H1 H2
  clear eX eY eP eQ er ek eX1 eY1 el eX2 eY2 eN
  go_enter Try.func7, Try.ntmps7
  go_wp2_with fail
  refine (awake_any _).mono ?_
  rintro e w1 ⟨rfl, h1⟩
  have a1 := a0.still h1
  have b1 := b0.still h1
  have d1 := d0.still h1
  have HS1 := hid (HS0.out.trans h1)
  clear a0 b0 d0 HS0 h1
  obtain ⟨c0, c1, c2, cf⟩ := a1.cells
  obtain ⟨m0, m1, mf⟩ := b1.cells
  obtain ⟨o0, o1, of⟩ := d1.cells
  go_wp2_with fail
  refine (H1.out _).mono ?_
  rintro e w2 ⟨rfl, h2⟩
  have A2 := Still.alloc w2 (.cells #[.int .i64 X2, .int .i64 Y2] 36)
  have a2 := (a1.still h2).still A2
  have b2 := (b1.still h2).still A2
  have d2 := (d1.still h2).still A2
  have v2 := newP_pb w2 X2 Y2
  have HS2 := hid ((HS1.out.trans h2).trans A2)
  clear a1 b1 d1 HS1 h2 A2 c0 c1 c2 cf m0 m1 mf o0 o1 of
  obtain ⟨c0, c1, c2, cf⟩ := a2.cells
  obtain ⟨m0, m1, mf⟩ := b2.cells
  obtain ⟨o0, o1, of⟩ := d2.cells
  go_wp2_with fail
  refine (H2.out _).mono ?_
  rintro e w3 ⟨rfl, h3⟩
  have A3 := Still.alloc w3 (.cells #[.int .i64 X2, .int .i64 Y2] 36)
  have v3 := (v2.still h3).still A3
  have u3 := newP_pb w3 X2 Y2
  have HS3 := hid ((HS2.out.trans h3).trans A3)
  clear a2 b2 d2 v2 HS2 h3 A3 c0 c1 c2 cf m0 m1 mf o0 o1 of
  obtain ⟨m0, m1, mf⟩ := v3.cells
  obtain ⟨o0, o1, of⟩ := u3.cells
  have k1 := eql_pt_t (x := X2) (y := Y2) (z := X2) (u := Y2) rfl rfl
  have g1 := guard_pt
  go_wp2_with fail
  go_ret
  exact ⟨rfl, HS3.out⟩
set_option maxHeartbeats 4000000 in
theorem rays_law (C R : Int) (s : ByteArray) (x y p q : Int) (hC : C ≤ 9223372036854775807) (hz : s.size ≤ 140737488355328) (w : World) :
    Calls Try.prog 8 #[ar C R s, pt x y, pt p q] w fun e w' => e = .returned (.bool true) ∧ Still w w' := by
  have A1 := Still.alloc (newA w C R s) (.cells #[.int .i64 x, .int .i64 y] 36)
  have A2 := Still.alloc (newP (newA w C R s) x y) (.cells #[.int .i64 p, .int .i64 q] 36)
  have a0 := ((newA_ab w C R s).still A1).still A2
  have b0 := (newP_pb (newA w C R s) x y).still A2
  have d0 := newP_pb (newP (newA w C R s) x y) p q
  simp only [size_alloc] at b0 d0
  have HS0 := hid (((Still.alloc w (.cells #[.int .i64 C, .int .i64 R, .string s] 24)).trans A1).trans A2)
  clear A1 A2
  obtain ⟨X, eX⟩ : ∃ X, bnd x = X := ⟨_, rfl⟩
  obtain ⟨Y, eY⟩ : ∃ Y, bnd y = Y := ⟨_, rfl⟩
  obtain ⟨P, eP⟩ : ∃ P, stp p = P := ⟨_, rfl⟩
  obtain ⟨Q, eQ⟩ : ∃ Q, stp q = Q := ⟨_, rfl⟩
  obtain ⟨n, en⟩ : ∃ n, rayN P Q = n := ⟨_, rfl⟩
  obtain ⟨k, ek⟩ : ∃ k, go (rayT (solB C R s) X Y P Q n) n = k := ⟨_, rfl⟩
  have H1 := hid (fun u => ray_any C R x y p q s (by omega) X Y P Q n k eX eY eP eQ en ek u)
  have H2 := hid (fun u => rray_any C R x y p q s (by omega) hC X Y P Q n k eX eY eP eQ en ek u)
  obtain ⟨X2, eX2⟩ : ∃ X2, rp X P n k = X2 := ⟨_, rfl⟩
  obtain ⟨Y2, eY2⟩ : ∃ Y2, rp Y Q n k = Y2 := ⟨_, rfl⟩
  obtain ⟨t, et⟩ : ∃ t, decide (k < n) = t := ⟨_, rfl⟩
  rw [eX2, eY2, et] at H1 H2
  clear eX eY eP eQ en ek eX2 eY2 et
  go_enter Try.func8, Try.ntmps8
  go_wp2_with fail
  refine (awake_any _).mono ?_
  rintro e w1 ⟨rfl, h1⟩
  have a1 := a0.still h1
  have b1 := b0.still h1
  have d1 := d0.still h1
  have HS1 := hid (HS0.out.trans h1)
  clear a0 b0 d0 HS0 h1
  obtain ⟨c0, c1, c2, cf⟩ := a1.cells
  obtain ⟨m0, m1, mf⟩ := b1.cells
  obtain ⟨o0, o1, of⟩ := d1.cells
  go_wp2_with fail
  refine (H1.out _).mono ?_
  rintro e w2 ⟨rfl, h2⟩
  have A2 := Still.alloc w2 (.cells #[.int .i64 X2, .int .i64 Y2] 36)
  have a2 := (a1.still h2).still A2
  have b2 := (b1.still h2).still A2
  have d2 := (d1.still h2).still A2
  have v2 := newP_pb w2 X2 Y2
  have HS2 := hid ((HS1.out.trans h2).trans A2)
  clear a1 b1 d1 HS1 h2 A2 c0 c1 c2 cf m0 m1 mf o0 o1 of
  obtain ⟨c0, c1, c2, cf⟩ := a2.cells
  obtain ⟨m0, m1, mf⟩ := b2.cells
  obtain ⟨o0, o1, of⟩ := d2.cells
  go_wp2_with fail
  refine (H2.out _).mono ?_
  rintro e w3 ⟨rfl, h3⟩
  have A3 := Still.alloc w3 (.cells #[.int .i64 X2, .int .i64 Y2] 36)
  have v3 := (v2.still h3).still A3
  have u3 := newP_pb w3 X2 Y2
  have HS3 := hid ((HS2.out.trans h3).trans A3)
  clear a2 b2 d2 v2 HS2 h3 A3 c0 c1 c2 cf m0 m1 mf o0 o1 of
  obtain ⟨m0, m1, mf⟩ := v3.cells
  obtain ⟨o0, o1, of⟩ := u3.cells
  have k1 := eql_pt_t (x := X2) (y := Y2) (z := X2) (u := Y2) rfl rfl
  have g1 := guard_pt
  cases t
  all_goals
    go_wp2_with fail
    go_ret
    exact ⟨rfl, HS3.out⟩
end Go.Proofs.Ytnoaomocdmkigaa
