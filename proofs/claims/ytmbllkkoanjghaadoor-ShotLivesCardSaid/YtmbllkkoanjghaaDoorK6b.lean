/- How far a body comes on one axis: the document's answer. A body that slides: the document's answer. A ray: the document's answer. Plain facts on slides and rays: where a body comes, what stops it, two slides one behind the other. -/
import Derived.Test.YtmbllkkoanjghaaDoorK6a
namespace Go.Proofs.YtmbllkkoanjghaaDoor
open Go.RowKit
open Pu Gp Ap

theorem around_ok (x y r : Int) (h0 : 0 ≤ r) (h1 : r ≤ 4096) : okb (subf x r) (subf y r) (addf x r) (addf y r) = true := by
  refine okb_of ?_
  have er := bnd_id (n := r) (by omega) (by omega)
  unfold okB subf addf
  exact ⟨bnd_lo _, bnd_hi _, bnd_lo _, bnd_hi _, bnd_lo _, bnd_hi _, bnd_lo _, bnd_hi _, bnd_mono (by omega), bnd_mono (by omega)⟩
theorem setB_ab {w : World} {b g : Nat} {C R : Int} {s : ByteArray} (h : Ab w b C R s) (hb : b ≠ g) (x y z u : Int) : Ab (setB w g x y z u) b C R s := by
  unfold Ab
  rw [heap_setCell_other _ _ _ _ hb, heap_setCell_other _ _ _ _ hb, heap_setCell_other _ _ _ _ hb, heap_setCell_other _ _ _ _ hb]
  exact h
theorem setB_pb {w : World} {b g : Nat} {p q : Int} (h : Pb w b p q) (hb : b ≠ g) (x y z u : Int) : Pb (setB w g x y z u) b p q := by
  unfold Pb
  rw [heap_setCell_other _ _ _ _ hb, heap_setCell_other _ _ _ _ hb, heap_setCell_other _ _ _ _ hb, heap_setCell_other _ _ _ _ hb]
  exact h
theorem setB_bb {w : World} {b g : Nat} {p q p' q' : Int} (h : Bb w b p q p' q') (hb : b ≠ g) (x y z u : Int) : Bb (setB w g x y z u) b p q p' q' := by
  unfold Bb
  rw [heap_setCell_other _ _ _ _ hb, heap_setCell_other _ _ _ _ hb, heap_setCell_other _ _ _ _ hb, heap_setCell_other _ _ _ _ hb]
  exact h
theorem eql_bx_is {x y z u x' y' z' u' : Int} {t : Bool} (h : ((x == x' && y == y') && (z == z' && u == u')) = t) (w : World) : (binOp .eql 63 (bx x y z u) (bx x' y' z' u')).run Tryd.prog w = .ok (.bool t) w := by
  rw [eql_bx, h]
/-- the cells of a body's box, and the box of those of the step ahead -/
def cl1 (x r : Int) : Int := dn (subf x r)
def cl2 (x r : Int) : Int := dn (addf x r)
theorem bdy_cells {sol : Int → Int → Bool} {r x y x' y' : Int} (h1 : cl1 x r = cl1 x' r) (h2 : cl1 y r = cl1 y' r) (h3 : cl2 x r = cl2 x' r) (h4 : cl2 y r = cl2 y' r) : bdy sol r x y = bdy sol r x' y' := by
  unfold bdy tch
  unfold cl1 cl2 at *
  rw [h1, h2, h3, h4]
/-- where a body is at the j-th step -/
def atS (x s : Int) (j : Nat) : Int := addf x (s * (j : Int))
def lastC (f : Nat → Int) (k : Nat) : Int := if k ≤ 1 then 0 else f (k - 1)
end Go.Proofs.YtmbllkkoanjghaaDoor
namespace Go.Proofs.YtmbllkkoanjghaaDoor
open Go.RowKit
open Pu Gp Ap

theorem sgn_in (n : Int) : -1 ≤ sgn n ∧ sgn n ≤ 1 := by
  unfold sgn
  repeat' split
  all_goals omega
/-- the size of a number that is no more than a step -/
theorem rabs_s (n : Int) (h0 : -2048 ≤ n) (h1 : n ≤ 2048) (w : World) : Calls Tryd.prog 51 #[.int .i64 n] w fun e w' => e = .returned (.int .i64 (n.natAbs : Nat)) ∧ w' = w := by
  have eb := bnd_id (n := n) (by omega) (by omega)
  by_cases h : n < 0
  · rw [show ((n.natAbs : Nat) : Int) = -n by omega]
    go_enter Tryd.func51, Tryd.ntmps51
    go_wp2_with (go_at_call 40; refine (rbound_any _ _).mono ?_; rintro e w' ⟨he, hw⟩; rw [he, hw, eb]; clear he hw w')
    go_ret
    exact ⟨rfl, rfl⟩
  · rw [show ((n.natAbs : Nat) : Int) = n by omega]
    go_enter Tryd.func51, Tryd.ntmps51
    go_wp2_with (go_at_call 40; refine (rbound_any _ _).mono ?_; rintro e w' ⟨he, hw⟩; rw [he, hw, eb]; clear he hw w')
    go_ret
    exact ⟨rfl, rfl⟩
theorem rstep_any (x y : Int) (w : World) : Calls Tryd.prog 50 #[pt x y] w fun e w' => e = .returned (pt (stp x) (stp y)) ∧ Still w w' := by
  obtain ⟨W, eW⟩ : ∃ W, W = (newP (newP w x y) 0 0) := ⟨_, rfl⟩
  have p0 : Pb W (w.heap.size) x y := by rw [eW]; have h := newP_pb w x y; exact (h.still (Still.alloc _ _))
  have c00 := Cl.cell p0.cells.1
  have c01 := Cl.cell p0.cells.2.1
  clear p0
  have r : Pb W (w.heap.size + 1) 0 0 := by rw [eW]; have h := newP_pb (newP w x y) 0 0; simp only [size_alloc] at h; exact h
  have HF := hid (show Still w W by rw [eW]; exact ((Still.alloc w _).trans (Still.alloc _ _)))
  have HW := hid eW
  have hne := Aft.here W
  clear eW
  have HB := hid (show w.heap.size ≤ w.heap.size + 1 by omega)
  go_enter Tryd.func50, Tryd.ntmps50
  go_wp2_with fail
  have e := HW.out
  simp only [newP] at e
  rw [← e]
  clear e HW
  refine region_rest 6 (by kernel_rfl) (by kernel_rfl) ?_
  simp only [List.take_succ_cons, List.take_zero, List.drop_succ_cons, List.drop_zero]
  repeat (go_big_quiet_step ((go_at_call 68; exact Calls.cl_same (rclamp_any _ _ _ _))))
  refine wpQuiet_nil ?_
  intro w1 hs
  clear hne c00 c01
  have q := r.still hs
  obtain ⟨d0, d1, df⟩ := q.cells
  go_wp2_with fail
  (try simp only [Exit.inBlock, Exit.then])
  exact bodyPost_ret ((q.set _ _).res rfl _ rfl) rfl ⟨rfl, setP_fr (HF.out.trans hs) _ _ _ (.inr HB.out)⟩
theorem setP_size (w : World) (b : Nat) (x y : Int) : (setP w b x y).heap.size = w.heap.size := by simp [setP, World.setCell]
theorem setP_ab {w : World} {b g : Nat} {C R : Int} {s : ByteArray} (h : Ab w b C R s) (hb : b ≠ g) (x y : Int) : Ab (setP w g x y) b C R s := by
  unfold Ab
  rw [heap_setCell_other _ _ _ _ hb, heap_setCell_other _ _ _ _ hb]
  exact h
theorem setP_pb {w : World} {b g : Nat} {p q : Int} (h : Pb w b p q) (hb : b ≠ g) (x y : Int) : Pb (setP w g x y) b p q := by
  unfold Pb
  rw [heap_setCell_other _ _ _ _ hb, heap_setCell_other _ _ _ _ hb]
  exact h
theorem Pb.rest {fn : Func} {p q : Tmp} {w : World} {g : Nat} {x y : Int} (hb : Pb w g x y) (h : fn.results = #[.cell p 23, .tmp q]) (tmps : Array Value) (t : Value) (hp : tmps.getD p undef = .pointer (some ⟨g, 0, none⟩)) (hq : tmps.getD q undef = t) :
    (results fn tmps).run Tryd.prog w = .ok (.tuple #[pt x y, t]) w := by
  rw [results_cell_tmp h, hp, hq]
  simp [asAddr, Result.andThen, load_pt w g x y hb.cells.1 hb.cells.2.1]
/-- how far on X, how far on Y -/
def kX (sol : Int → Int → Bool) (r X Y p : Int) : Nat := go (fun j => bdy sol r (atS X (sgn p) j) (atS Y 0 j)) p.natAbs
def kY (sol : Int → Int → Bool) (r X Y q : Int) : Nat := go (fun j => bdy sol r (atS X 0 j) (atS Y (sgn q) j)) q.natAbs
def side (k n l m : Nat) : Int := (if k < n then 1 else 0) + (if l < m then 2 else 0)
theorem kX_le (sol : Int → Int → Bool) (r X Y p : Int) : kX sol r X Y p ≤ p.natAbs := go_le _ _
theorem kY_le (sol : Int → Int → Bool) (r X Y q : Int) : kY sol r X Y q ≤ q.natAbs := go_le _ _
theorem sgn_mul {s : Int} {k : Nat} (h0 : -1 ≤ s) (h1 : s ≤ 1) (hk : k ≤ 2048) : -2048 ≤ s * (k : Int) ∧ s * (k : Int) ≤ 2048 := by
  have : s = -1 ∨ s = 0 ∨ s = 1 := by omega
  rcases this with rfl | rfl | rfl <;> omega
theorem clamp_r (n : Int) : 0 ≤ clampf n 0 4096 ∧ clampf n 0 4096 ≤ 4096 := by
  have h1 : bnd 0 = 0 := by decide
  have h2 : bnd 4096 = 4096 := by decide
  unfold clampf
  rw [h1, h2]
  repeat' split
  all_goals omega
end Go.Proofs.YtmbllkkoanjghaaDoor
namespace Go.Proofs.YtmbllkkoanjghaaDoor
open Go.RowKit
open Pu Gp Ap

/-- where a ray is at its j-th step of n -/
def rp (X p : Int) (n j : Nat) : Int := if j = 0 then X else addf X ((p * (j : Int)).tdiv (n : Int))
def rayN (p q : Int) : Nat := (max p.natAbs q.natAbs + 63) / 64
def rayT (sol : Int → Int → Bool) (X Y p q : Int) (n j : Nat) : Bool := sol (dn (rp X p n j)) (dn (rp Y q n j))
theorem tdiv_in {v : Int} {n : Nat} (h0 : -67584 ≤ v) (h1 : v ≤ 67584) : -67584 ≤ v.tdiv (n : Int) ∧ v.tdiv (n : Int) ≤ 67584 := by
  rcases Int.le_total 0 v with h | h
  · rw [Int.tdiv_eq_ediv_of_nonneg h]
    have a : 0 ≤ v / (n : Int) := Int.ediv_nonneg h (by omega)
    have b : v / (n : Int) ≤ v := Int.ediv_le_self _ h
    omega
  · have e : v.tdiv (n : Int) = -((-v) / (n : Int)) := by
      rw [← Int.tdiv_eq_ediv_of_nonneg (show 0 ≤ -v by omega), Int.neg_tdiv]; omega
    have a : 0 ≤ (-v) / (n : Int) := Int.ediv_nonneg (by omega) (by omega)
    have b : (-v) / (n : Int) ≤ -v := Int.ediv_le_self _ (by omega)
    omega
theorem wrap_t {v : Int} (h0 : -67584 ≤ v) (h1 : v ≤ 67584) : IntKind.i64.wrap v = v := by rw [IntKind.wrap_i64]; omega
theorem step_mul {p : Int} {k : Nat} (h0 : -2048 ≤ p) (h1 : p ≤ 2048) (hk : k ≤ 33) : -67584 ≤ p * (k : Int) ∧ p * (k : Int) ≤ 67584 := by
  have : (p * (k : Int)).natAbs ≤ 2048 * 33 := by rw [Int.natAbs_mul]; exact Nat.mul_le_mul (by omega) (by omega)
  omega
set_option maxHeartbeats 4000000 in
set_option maxRecDepth 100000 in
theorem rray_any (C R x y p q : Int) (s : ByteArray) (hz : s.size ≤ 281474976710656) (hC : C ≤ 9223372036854775807) (X Y P Q : Int) (n k : Nat)
    (eX : bnd x = X) (eY : bnd y = Y) (eP : stp p = P) (eQ : stp q = Q) (en : rayN P Q = n) (ek : go (rayT (solB C R s) X Y P Q n) n = k) (w : World) :
    Calls Tryd.prog 35 #[ar C R s, pt x y, pt p q] w fun e w' => e = .returned (.tuple #[pt (rp X P n k) (rp Y Q n k), .bool (decide (k < n))]) ∧ Still w w' := by
  have A0 := Still.alloc w (.cells #[.int .i64 C, .int .i64 R, .string s] 37)
  have A1 := Still.alloc (newA w C R s) (.cells #[.int .i64 x, .int .i64 y] 23)
  have A2 := Still.alloc (newP (newA w C R s) x y) (.cells #[.int .i64 p, .int .i64 q] 23)
  have A3 := Still.alloc (newP (newP (newA w C R s) x y) p q) (.cells #[.int .i64 0, .int .i64 0] 23)
  have a0 := (((newA_ab w C R s).still A1).still A2).still A3
  have b0 := ((newP_pb (newA w C R s) x y).still A2).still A3
  have c0 := (newP_pb (newP (newA w C R s) x y) p q).still A3
  have d0 := newP_pb (newP (newP (newA w C R s) x y) p q) 0 0
  simp only [size_alloc] at b0 c0 d0
  have HS0 := hid (((A0.trans A1).trans A2).trans A3)
  clear A0 A1 A2 A3
  have HN := hid (show w.heap.size ≠ w.heap.size + 1 ∧ w.heap.size ≠ w.heap.size + 1 + 1 ∧ w.heap.size + 1 ≠ w.heap.size + 1 + 1 ∧ w.heap.size + 1 + 1 ≠ w.heap.size + 1 ∧ w.heap.size + 1 + 1 + 1 ≠ w.heap.size + 1 ∧ w.heap.size + 1 + 1 + 1 ≠ w.heap.size + 1 + 1 by omega)
  have HB := hid (show w.heap.size ≤ w.heap.size + 1 ∧ w.heap.size ≤ w.heap.size + 1 + 1 ∧ w.heap.size ≤ w.heap.size + 1 + 1 + 1 by omega)
  have pb := stp_in p
  have qb := stp_in q
  rw [eP] at pb
  rw [eQ] at qb
  obtain ⟨p0, p1⟩ := pb
  obtain ⟨q0, q1⟩ := qb
  have n1 : n ≤ 32 := by rw [← en]; unfold rayN; omega
  have HX := hid (show (-2147483647 ≤ X ∧ X ≤ 2147483647) ∧ (-2147483647 ≤ Y ∧ Y ≤ 2147483647) by rw [← eX, ← eY]; exact ⟨⟨bnd_lo _, bnd_hi _⟩, ⟨bnd_lo _, bnd_hi _⟩⟩)
  have HE := hid (And.intro (And.intro eX eY) (And.intro (And.intro eP eQ) (And.intro en ek)))
  clear eX eY eP eQ ek
  go_enter Tryd.func35, Tryd.ntmps35
  go_wp2_with fail
  refine (rgbound_any x y _).mono ?_
  rintro e w1 ⟨rfl, h1⟩
  rw [HE.out.1.1, HE.out.1.2]
  obtain ⟨f0, f1, ff⟩ := (b0.still h1).cells
  have a1 := setP_ab (a0.still h1) HN.out.1 X Y
  have b1 := (b0.still h1).set X Y
  have c1 := setP_pb (c0.still h1) HN.out.2.2.2.1 X Y
  have d1 := setP_pb (d0.still h1) HN.out.2.2.2.2.1 X Y
  have HS1 := hid (setP_fr (HS0.out.trans h1) (w.heap.size + 1) X Y (.inr HB.out.1))
  clear a0 b0 c0 d0 HS0 h1
  obtain ⟨g0, g1, gf⟩ := c1.cells
  go_wp2_with fail
  refine (rstep_any p q _).mono ?_
  rintro e w2 ⟨rfl, h2⟩
  rw [HE.out.2.1.1, HE.out.2.1.2]
  clear f0 f1 ff g0 g1 gf
  obtain ⟨f0, f1, ff⟩ := (c1.still h2).cells
  have a2 := setP_ab (a1.still h2) HN.out.2.1 P Q
  have b2 := setP_pb (b1.still h2) HN.out.2.2.1 P Q
  have c2 := (c1.still h2).set P Q
  have d2 := setP_pb (d1.still h2) HN.out.2.2.2.2.2 P Q
  have HS2 := hid (setP_fr (Still.trans HS1.out h2) (w.heap.size + 1 + 1) P Q (.inr HB.out.2.1))
  clear a1 b1 c1 d1 HS1 h2
  have A3 := Still.alloc (setP w2 (w.heap.size + 1 + 1) P Q) (.cells #[.int .i64 X, .int .i64 Y] 23)
  have a3 := a2.still A3
  have b3 := b2.still A3
  have c3 := c2.still A3
  have d3 := d2.still A3
  have v3 := newP_pb (setP w2 (w.heap.size + 1 + 1) P Q) X Y
  rw [setP_size] at v3
  have HS3 := hid (Still.trans HS2.out A3)
  have NL := hid (show w.heap.size + 1 + 1 + 1 < w2.heap.size by have := block_lt d2; rw [setP_size] at this; exact this)
  obtain ⟨g0, g1, gf⟩ := c2.cells
  obtain ⟨m0, m1, mf⟩ := b2.cells
  clear a2 b2 c2 d2 HS2 A3
  have hm : (P.natAbs < Q.natAbs ∧ (((Q.natAbs : Nat) : Int) + 63) / 64 = (n : Int)) ∨ (¬ P.natAbs < Q.natAbs ∧ (((P.natAbs : Nat) : Int) + 63) / 64 = (n : Int)) := by
    unfold rayN at en
    by_cases h : P.natAbs < Q.natAbs
    · exact .inl ⟨h, by omega⟩
    · exact .inr ⟨h, by omega⟩
  clear en
  rcases hm with ⟨hm, hd⟩ | ⟨hm, hd⟩
  · go_wp2_with (first | (go_at_call 51; (first | with_reducible refine (rabs_s P p0 p1 _).mono ?_ | with_reducible refine (rabs_s Q q0 q1 _).mono ?_); rintro e w' ⟨he, hw⟩; rw [he, hw]; clear he hw w'))
    rw [hd]
    clear hd hm f0 f1 ff g0 g1 gf m0 m1 mf
    go_loopw [12] (fun vj wr => ∃ j : Nat, 1 ≤ j ∧ j ≤ n + 1 ∧ vj = .int .i64 (j : Int) ∧ (∀ i, 1 ≤ i → i < j → rayT (solB C R s) X Y P Q n i = false) ∧ Ab wr w.heap.size C R s ∧ Pb wr (w.heap.size + 1) X Y ∧ Pb wr (w.heap.size + 1 + 1) P Q ∧ Pb wr (w.heap.size + 1 + 1 + 1) 0 0 ∧
        Pb wr w2.heap.size (rp X P n (j - 1)) (rp Y Q n (j - 1)) ∧ Still w wr) (fun vj _ => n + 1 - (intOf vj).toNat)
    case atStart => exact ⟨1, by omega, by omega, rfl, fun i h1 h2 => by omega, a3, b3, c3, d3, v3, HS3.out⟩
    case round =>
      obtain ⟨j, j1, j2, rfl, hfree, a4, b4, c4, d4, v4, hs⟩ := hrel
      have HF := hid hfree
      have HS4 := hid hs
      clear hfree hs a3 b3 c3 d3 v3 HS3
      by_cases hlt : j ≤ n
      · obtain ⟨t0, t1⟩ := step_mul p0 p1 (show j ≤ 33 by omega)
        obtain ⟨t2, t3⟩ := step_mul q0 q1 (show j ≤ 33 by omega)
        obtain ⟨t4, t5⟩ := tdiv_in (n := n) t0 t1
        obtain ⟨t6, t7⟩ := tdiv_in (n := n) t2 t3
        have W1 := wrap_t t4 t5
        have W2 := wrap_t t6 t7
        have W3 := wrap_t t0 t1
        have W4 := wrap_t t2 t3
        have nz : ¬ n = 0 := by omega
        obtain ⟨NX, eNX⟩ : ∃ NX, addf X ((P * (j : Int)).tdiv (n : Int)) = NX := ⟨_, rfl⟩
        obtain ⟨NY, eNY⟩ : ∃ NY, addf Y ((Q * (j : Int)).tdiv (n : Int)) = NY := ⟨_, rfl⟩
        have bX : -2147483647 ≤ NX ∧ NX ≤ 2147483647 := by rw [← eNX]; exact ⟨bnd_lo _, bnd_hi _⟩
        have bY : -2147483647 ≤ NY ∧ NY ≤ 2147483647 := by rw [← eNY]; exact ⟨bnd_lo _, bnd_hi _⟩
        have HP := hid (show rp X P n j = NX ∧ rp Y Q n j = NY by
          unfold rp; rw [if_neg (by omega), if_neg (by omega)]; exact ⟨eNX, eNY⟩)
        have HA : Hid (∀ u : World, Calls Tryd.prog 30 #[pt X Y, pt ((P * (j : Int)).tdiv (n : Int)) ((Q * (j : Int)).tdiv (n : Int))] u fun e w' => e = .returned (pt NX NY) ∧ Still u w') := hid (fun u => by
          have h := rgadd_any X Y ((P * (j : Int)).tdiv (n : Int)) ((Q * (j : Int)).tdiv (n : Int)) u
          rw [eNX, eNY] at h
          exact h)
        clear eNX eNY
        go_wp2_with fail
        refine region_var (on := _) 15 13 (.cells #[.int .i64 0, .int .i64 0] 23)
          [pt X Y, .pointer (some ⟨w.heap.size + 1 + 1, 0, none⟩), .int .i64 P, .int .i64 (j : Int), .int .i64 (P * (j : Int)), .int .i64 (n : Int), .int .i64 ((P * (j : Int)).tdiv (n : Int)), .pointer (some ⟨w.heap.size + 1 + 1, 1, none⟩), .int .i64 Q, .int .i64 (j : Int), .int .i64 (Q * (j : Int)), .int .i64 (n : Int), .int .i64 ((Q * (j : Int)).tdiv (n : Int)), pt ((P * (j : Int)).tdiv (n : Int)) ((Q * (j : Int)).tdiv (n : Int)), pt NX NY]
          ⟨#[ar C R s, pt x y, pt p q, .pointer (some ⟨w.heap.size, 0, none⟩), .pointer (some ⟨w.heap.size + 1, 0, none⟩), .pointer (some ⟨w.heap.size + 1 + 1, 0, none⟩), .pointer (some ⟨w.heap.size + 1 + 1 + 1, 0, none⟩), u7, .int .i64 ((Q.natAbs : Nat) : Int), .int .i64 ((Q.natAbs : Nat) : Int), .int .i64 (n : Int), .pointer (some ⟨w2.heap.size, 0, none⟩), .int .i64 (j : Int), u13, u14, .agg #[.int .i64 x, .int .i64 y], pt X Y, .agg #[.int .i64 p, .int .i64 q], pt P Q, .pointer (some ⟨w.heap.size + 1 + 1, 0, none⟩), .int .i64 P, .int .i64 ((P.natAbs : Nat) : Int), .pointer (some ⟨w.heap.size + 1 + 1, 1, none⟩), .int .i64 Q, .int .i64 ((Q.natAbs : Nat) : Int), .int .i64 ((Q.natAbs : Nat) : Int), .int .i64 ((P.natAbs : Nat) : Int), .bool true, .int .i64 ((Q.natAbs : Nat) : Int), .int .i64 ((Q.natAbs : Nat) : Int), .int .i64 (((Q.natAbs : Nat) : Int) + 63), .int .i64 (n : Int), .agg #[.int .i64 X, .int .i64 Y], .int .i64 (j : Int), .int .i64 (n : Int), .bool true, u36, u37, pt X Y, .pointer (some ⟨w.heap.size + 1 + 1, 0, none⟩), .int .i64 P, .int .i64 (j : Int), .int .i64 (P * (j : Int)), .int .i64 (n : Int), .int .i64 ((P * (j : Int)).tdiv (n : Int)), .pointer (some ⟨w.heap.size + 1 + 1, 1, none⟩), .int .i64 Q, .int .i64 (j : Int), .int .i64 (Q * (j : Int)), .int .i64 (n : Int), .int .i64 ((Q * (j : Int)).tdiv (n : Int)), pt ((P * (j : Int)).tdiv (n : Int)) ((Q * (j : Int)).tdiv (n : Int)), pt NX NY, u53, u54, u55, u56, u57, u58, u59, u60, u61, u62, u63, undef], []⟩
          (by kernel_rfl) (by kernel_rfl) rfl rfl rfl (by kernel_rfl) (by kernel_rfl) (show 13 < 65 by omega) ?_ ?_ ?_
        · simp only [List.take_succ_cons, List.take_zero, wpEach, and_true]
          refine ⟨?_, ?_, ?_, ?_, ?_, ?_, ?_, ?_, ?_, ?_, ?_, ?_, ?_, ?_, ?_⟩
          all_goals
            intro u hu
            obtain ⟨g0, g1, gf⟩ := (b4.still hu).cells
            obtain ⟨i0, i1, jf⟩ := (c4.still hu).cells
            go_simp
          all_goals exact HA.out u
        · intro u _ z
          go_simp
        simp only [List.drop_succ_cons, List.drop_zero]
        intro w5 g hs5 hge hz5
        have N0 : w.heap.size ≠ g := by have := block_lt a4; omega
        have N1 : w.heap.size + 1 ≠ g := by have := block_lt b4; omega
        have N2 : w.heap.size + 1 + 1 ≠ g := by have := block_lt c4; omega
        have N3 : w.heap.size + 1 + 1 + 1 ≠ g := by have := block_lt d4; omega
        have N4 : w2.heap.size ≠ g := by have := block_lt v4; omega
        have NG : w.heap.size ≤ g := by have := block_lt a4; omega
        have x5 : Pb w5 g 0 0 := hz5
        obtain ⟨e0, e1, ef⟩ := x5.cells
        have a5 := setP_ab (a4.still hs5) N0 NX NY
        have b5 := setP_pb (b4.still hs5) N1 NX NY
        have c5 := setP_pb (c4.still hs5) N2 NX NY
        have d5 := setP_pb (d4.still hs5) N3 NX NY
        have v5 := setP_pb (v4.still hs5) N4 NX NY
        have y5 := x5.set NX NY
        have HS5 := hid (setP_fr (HS4.out.trans hs5) g NX NY (.inr NG))
        clear a4 b4 c4 d4 v4 HS4 hs5 hge hz5 x5 N0 N1 N2 N3 N4 NG W1 W2 W3 W4 t0 t1 t2 t3 t4 t5 t6 t7 HA
        simp only [Act.put, List.setIfInBounds_toArray, List.set_cons_succ, List.set_cons_zero]
        go_wp2_with fail
        obtain ⟨W5, eW5⟩ : ∃ W5, setP w5 g NX NY = W5 := ⟨_, rfl⟩
        rw [show (w5.setCell ⟨g, 0, none⟩ (.int .i64 NX)).setCell ⟨g, 1, none⟩ (.int .i64 NY) = W5 from eW5]
        rw [eW5] at a5 b5 c5 d5 v5 y5 HS5
        clear eW5 e0 e1 ef
        have i0 := Cl.cell a5.cells.1
        have i1 := Cl.cell a5.cells.2.1
        have i2 := Cl.cell a5.cells.2.2.1
        have o0 := Cl.cell y5.cells.1
        have o1 := Cl.cell y5.cells.2.1
        have hne := Aft.here W5
        obtain ⟨bX0, bX1⟩ := bX
        obtain ⟨bY0, bY1⟩ := bY
        cases hsol : solB C R s (dn NX) (dn NY) with
        | true =>
          have HC : Hid (∀ u : World, Calls Tryd.prog 52 #[ar C R s, .int .i64 (dn NX), .int .i64 (dn NY)] u fun e w' => e = .returned (.bool true) ∧ Still u w') := hid (fun u => rsolid_is C R (dn NX) (dn NY) s hz hC hsol u)
          have HK := hid (show j - 1 = k by
            rw [← HE.out.2.2.2]
            refine (go_one (by omega) (fun i h1 h2 => HF.out i h1 (by omega)) (fun _ => ?_)).symm
            rw [show j - 1 + 1 = j by omega]
            unfold rayT
            rw [HP.out.1, HP.out.2]
            exact hsol)
          clear hsol
          refine region_all (by kernel_rfl) (by kernel_rfl) ?_
          repeat (go_big_quiet_step ((first | (go_at_call 53; refine Calls.cl_same (rdown_any _ ?_ ?_ _) <;> omega) | (go_at_call 52; exact Calls.cl (HC.out _)))))
          refine wpQuiet_nil ?_
          intro w6 h6
          have v6 := v5.still h6
          have d6 := d5.still h6
          have HS6 := hid (Still.trans HS5.out h6)
          clear a5 b5 c5 d5 v5 y5 HS5 h6 i0 i1 i2 o0 o1 hne HC
          obtain ⟨i0, i1, jf⟩ := v6.cells
          obtain ⟨o0, o1, of⟩ := d6.cells
          go_wp2_with fail
          (try simp only [Exit.inBlock, Exit.then])
          exact bodyPost_ret ((d6.set _ _).rest rfl _ _ rfl rfl) rfl ⟨by rw [HK.out, decide_eq_true (show k < n by have := HK.out; omega)]; rfl, setP_fr HS6.out _ _ _ (.inr HB.out.2.2)⟩
        | false =>
          have HC : Hid (∀ u : World, Calls Tryd.prog 52 #[ar C R s, .int .i64 (dn NX), .int .i64 (dn NY)] u fun e w' => e = .returned (.bool false) ∧ Still u w') := hid (fun u => rsolid_is C R (dn NX) (dn NY) s hz hC hsol u)
          have HV := hid (show rayT (solB C R s) X Y P Q n j = false by
            unfold rayT
            rw [HP.out.1, HP.out.2]
            exact hsol)
          clear hsol
          refine region_all (by kernel_rfl) (by kernel_rfl) ?_
          repeat (go_big_quiet_step ((first | (go_at_call 53; refine Calls.cl_same (rdown_any _ ?_ ?_ _) <;> omega) | (go_at_call 52; exact Calls.cl (HC.out _)))))
          refine wpQuiet_nil ?_
          intro w6 h6
          have l1 : w.heap.size ≠ w2.heap.size := by have := NL.out; omega
          have l2 : w.heap.size + 1 ≠ w2.heap.size := by have := NL.out; omega
          have l3 : w.heap.size + 1 + 1 ≠ w2.heap.size := by have := NL.out; omega
          have l4 : w.heap.size + 1 + 1 + 1 ≠ w2.heap.size := by have := NL.out; omega
          have a6 := setP_ab (a5.still h6) l1 NX NY
          have b6 := setP_pb (b5.still h6) l2 NX NY
          have c6 := setP_pb (c5.still h6) l3 NX NY
          have d6 := setP_pb (d5.still h6) l4 NX NY
          have v6 := (v5.still h6).set NX NY
          have HS6 := hid (setP_fr (Still.trans HS5.out h6) w2.heap.size NX NY (.inr (by have := NL.out; omega)))
          obtain ⟨q2, q3, qf⟩ := (v5.still h6).cells
          obtain ⟨s2, s3, sf⟩ := (y5.still h6).cells
          clear a5 b5 c5 d5 v5 y5 HS5 h6 i0 i1 i2 o0 o1 hne HC l1 l2 l3 l4
          go_wp2_with fail
          go_roundw
          case rel => exact ⟨j + 1, by omega, by omega, by go_num, fun i h1 h2 => by
              by_cases e : i = j
              · subst e; exact HV.out
              · exact HF.out i h1 (by omega), a6, b6, c6, d6, by
                rw [Nat.add_sub_cancel, HP.out.1, HP.out.2]; exact v6, HS6.out⟩
          case measure => simp [intOf]; omega
      · have HK := hid (show j - 1 = k by
          rw [← HE.out.2.2.2]
          exact (go_one (by omega) (fun i h1 h2 => HF.out i h1 (by omega)) (fun h => by omega)).symm)
        obtain ⟨i0, i1, jf⟩ := v4.cells
        obtain ⟨o0, o1, of⟩ := d4.cells
        go_wp2_with fail
        (try simp only [Exit.inBlock, Exit.then])
        exact bodyPost_ret ((d4.set _ _).rest rfl _ _ rfl rfl) rfl ⟨by rw [HK.out, decide_eq_false (show ¬ k < n by have := HK.out; omega)]; rfl, setP_fr HS4.out _ _ _ (.inr HB.out.2.2)⟩
  · go_wp2_with (first | (go_at_call 51; (first | with_reducible refine (rabs_s P p0 p1 _).mono ?_ | with_reducible refine (rabs_s Q q0 q1 _).mono ?_); rintro e w' ⟨he, hw⟩; rw [he, hw]; clear he hw w'))
    rw [hd]
    clear hd hm f0 f1 ff g0 g1 gf m0 m1 mf
    go_loopw [12] (fun vj wr => ∃ j : Nat, 1 ≤ j ∧ j ≤ n + 1 ∧ vj = .int .i64 (j : Int) ∧ (∀ i, 1 ≤ i → i < j → rayT (solB C R s) X Y P Q n i = false) ∧ Ab wr w.heap.size C R s ∧ Pb wr (w.heap.size + 1) X Y ∧ Pb wr (w.heap.size + 1 + 1) P Q ∧ Pb wr (w.heap.size + 1 + 1 + 1) 0 0 ∧
        Pb wr w2.heap.size (rp X P n (j - 1)) (rp Y Q n (j - 1)) ∧ Still w wr) (fun vj _ => n + 1 - (intOf vj).toNat)
    case atStart => exact ⟨1, by omega, by omega, rfl, fun i h1 h2 => by omega, a3, b3, c3, d3, v3, HS3.out⟩
    case round =>
      obtain ⟨j, j1, j2, rfl, hfree, a4, b4, c4, d4, v4, hs⟩ := hrel
      have HF := hid hfree
      have HS4 := hid hs
      clear hfree hs a3 b3 c3 d3 v3 HS3
      by_cases hlt : j ≤ n
      · obtain ⟨t0, t1⟩ := step_mul p0 p1 (show j ≤ 33 by omega)
        obtain ⟨t2, t3⟩ := step_mul q0 q1 (show j ≤ 33 by omega)
        obtain ⟨t4, t5⟩ := tdiv_in (n := n) t0 t1
        obtain ⟨t6, t7⟩ := tdiv_in (n := n) t2 t3
        have W1 := wrap_t t4 t5
        have W2 := wrap_t t6 t7
        have W3 := wrap_t t0 t1
        have W4 := wrap_t t2 t3
        have nz : ¬ n = 0 := by omega
        obtain ⟨NX, eNX⟩ : ∃ NX, addf X ((P * (j : Int)).tdiv (n : Int)) = NX := ⟨_, rfl⟩
        obtain ⟨NY, eNY⟩ : ∃ NY, addf Y ((Q * (j : Int)).tdiv (n : Int)) = NY := ⟨_, rfl⟩
        have bX : -2147483647 ≤ NX ∧ NX ≤ 2147483647 := by rw [← eNX]; exact ⟨bnd_lo _, bnd_hi _⟩
        have bY : -2147483647 ≤ NY ∧ NY ≤ 2147483647 := by rw [← eNY]; exact ⟨bnd_lo _, bnd_hi _⟩
        have HP := hid (show rp X P n j = NX ∧ rp Y Q n j = NY by
          unfold rp; rw [if_neg (by omega), if_neg (by omega)]; exact ⟨eNX, eNY⟩)
        have HA : Hid (∀ u : World, Calls Tryd.prog 30 #[pt X Y, pt ((P * (j : Int)).tdiv (n : Int)) ((Q * (j : Int)).tdiv (n : Int))] u fun e w' => e = .returned (pt NX NY) ∧ Still u w') := hid (fun u => by
          have h := rgadd_any X Y ((P * (j : Int)).tdiv (n : Int)) ((Q * (j : Int)).tdiv (n : Int)) u
          rw [eNX, eNY] at h
          exact h)
        clear eNX eNY
        go_wp2_with fail
        refine region_var (on := _) 15 13 (.cells #[.int .i64 0, .int .i64 0] 23)
          [pt X Y, .pointer (some ⟨w.heap.size + 1 + 1, 0, none⟩), .int .i64 P, .int .i64 (j : Int), .int .i64 (P * (j : Int)), .int .i64 (n : Int), .int .i64 ((P * (j : Int)).tdiv (n : Int)), .pointer (some ⟨w.heap.size + 1 + 1, 1, none⟩), .int .i64 Q, .int .i64 (j : Int), .int .i64 (Q * (j : Int)), .int .i64 (n : Int), .int .i64 ((Q * (j : Int)).tdiv (n : Int)), pt ((P * (j : Int)).tdiv (n : Int)) ((Q * (j : Int)).tdiv (n : Int)), pt NX NY]
          ⟨#[ar C R s, pt x y, pt p q, .pointer (some ⟨w.heap.size, 0, none⟩), .pointer (some ⟨w.heap.size + 1, 0, none⟩), .pointer (some ⟨w.heap.size + 1 + 1, 0, none⟩), .pointer (some ⟨w.heap.size + 1 + 1 + 1, 0, none⟩), u7, .int .i64 ((P.natAbs : Nat) : Int), .int .i64 ((Q.natAbs : Nat) : Int), .int .i64 (n : Int), .pointer (some ⟨w2.heap.size, 0, none⟩), .int .i64 (j : Int), u13, u14, .agg #[.int .i64 x, .int .i64 y], pt X Y, .agg #[.int .i64 p, .int .i64 q], pt P Q, .pointer (some ⟨w.heap.size + 1 + 1, 0, none⟩), .int .i64 P, .int .i64 ((P.natAbs : Nat) : Int), .pointer (some ⟨w.heap.size + 1 + 1, 1, none⟩), .int .i64 Q, .int .i64 ((Q.natAbs : Nat) : Int), .int .i64 ((Q.natAbs : Nat) : Int), .int .i64 ((P.natAbs : Nat) : Int), .bool false, undef, .int .i64 ((P.natAbs : Nat) : Int), .int .i64 (((P.natAbs : Nat) : Int) + 63), .int .i64 (n : Int), .agg #[.int .i64 X, .int .i64 Y], .int .i64 (j : Int), .int .i64 (n : Int), .bool true, u36, u37, pt X Y, .pointer (some ⟨w.heap.size + 1 + 1, 0, none⟩), .int .i64 P, .int .i64 (j : Int), .int .i64 (P * (j : Int)), .int .i64 (n : Int), .int .i64 ((P * (j : Int)).tdiv (n : Int)), .pointer (some ⟨w.heap.size + 1 + 1, 1, none⟩), .int .i64 Q, .int .i64 (j : Int), .int .i64 (Q * (j : Int)), .int .i64 (n : Int), .int .i64 ((Q * (j : Int)).tdiv (n : Int)), pt ((P * (j : Int)).tdiv (n : Int)) ((Q * (j : Int)).tdiv (n : Int)), pt NX NY, u53, u54, u55, u56, u57, u58, u59, u60, u61, u62, u63, undef], []⟩
          (by kernel_rfl) (by kernel_rfl) rfl rfl rfl (by kernel_rfl) (by kernel_rfl) (show 13 < 65 by omega) ?_ ?_ ?_
        · simp only [List.take_succ_cons, List.take_zero, wpEach, and_true]
          refine ⟨?_, ?_, ?_, ?_, ?_, ?_, ?_, ?_, ?_, ?_, ?_, ?_, ?_, ?_, ?_⟩
          all_goals
            intro u hu
            obtain ⟨g0, g1, gf⟩ := (b4.still hu).cells
            obtain ⟨i0, i1, jf⟩ := (c4.still hu).cells
            go_simp
          all_goals exact HA.out u
        · intro u _ z
          go_simp
        simp only [List.drop_succ_cons, List.drop_zero]
        intro w5 g hs5 hge hz5
        have N0 : w.heap.size ≠ g := by have := block_lt a4; omega
        have N1 : w.heap.size + 1 ≠ g := by have := block_lt b4; omega
        have N2 : w.heap.size + 1 + 1 ≠ g := by have := block_lt c4; omega
        have N3 : w.heap.size + 1 + 1 + 1 ≠ g := by have := block_lt d4; omega
        have N4 : w2.heap.size ≠ g := by have := block_lt v4; omega
        have NG : w.heap.size ≤ g := by have := block_lt a4; omega
        have x5 : Pb w5 g 0 0 := hz5
        obtain ⟨e0, e1, ef⟩ := x5.cells
        have a5 := setP_ab (a4.still hs5) N0 NX NY
        have b5 := setP_pb (b4.still hs5) N1 NX NY
        have c5 := setP_pb (c4.still hs5) N2 NX NY
        have d5 := setP_pb (d4.still hs5) N3 NX NY
        have v5 := setP_pb (v4.still hs5) N4 NX NY
        have y5 := x5.set NX NY
        have HS5 := hid (setP_fr (HS4.out.trans hs5) g NX NY (.inr NG))
        clear a4 b4 c4 d4 v4 HS4 hs5 hge hz5 x5 N0 N1 N2 N3 N4 NG W1 W2 W3 W4 t0 t1 t2 t3 t4 t5 t6 t7 HA
        simp only [Act.put, List.setIfInBounds_toArray, List.set_cons_succ, List.set_cons_zero]
        go_wp2_with fail
        obtain ⟨W5, eW5⟩ : ∃ W5, setP w5 g NX NY = W5 := ⟨_, rfl⟩
        rw [show (w5.setCell ⟨g, 0, none⟩ (.int .i64 NX)).setCell ⟨g, 1, none⟩ (.int .i64 NY) = W5 from eW5]
        rw [eW5] at a5 b5 c5 d5 v5 y5 HS5
        clear eW5 e0 e1 ef
        have i0 := Cl.cell a5.cells.1
        have i1 := Cl.cell a5.cells.2.1
        have i2 := Cl.cell a5.cells.2.2.1
        have o0 := Cl.cell y5.cells.1
        have o1 := Cl.cell y5.cells.2.1
        have hne := Aft.here W5
        obtain ⟨bX0, bX1⟩ := bX
        obtain ⟨bY0, bY1⟩ := bY
        cases hsol : solB C R s (dn NX) (dn NY) with
        | true =>
          have HC : Hid (∀ u : World, Calls Tryd.prog 52 #[ar C R s, .int .i64 (dn NX), .int .i64 (dn NY)] u fun e w' => e = .returned (.bool true) ∧ Still u w') := hid (fun u => rsolid_is C R (dn NX) (dn NY) s hz hC hsol u)
          have HK := hid (show j - 1 = k by
            rw [← HE.out.2.2.2]
            refine (go_one (by omega) (fun i h1 h2 => HF.out i h1 (by omega)) (fun _ => ?_)).symm
            rw [show j - 1 + 1 = j by omega]
            unfold rayT
            rw [HP.out.1, HP.out.2]
            exact hsol)
          clear hsol
          refine region_all (by kernel_rfl) (by kernel_rfl) ?_
          repeat (go_big_quiet_step ((first | (go_at_call 53; refine Calls.cl_same (rdown_any _ ?_ ?_ _) <;> omega) | (go_at_call 52; exact Calls.cl (HC.out _)))))
          refine wpQuiet_nil ?_
          intro w6 h6
          have v6 := v5.still h6
          have d6 := d5.still h6
          have HS6 := hid (Still.trans HS5.out h6)
          clear a5 b5 c5 d5 v5 y5 HS5 h6 i0 i1 i2 o0 o1 hne HC
          obtain ⟨i0, i1, jf⟩ := v6.cells
          obtain ⟨o0, o1, of⟩ := d6.cells
          go_wp2_with fail
          (try simp only [Exit.inBlock, Exit.then])
          exact bodyPost_ret ((d6.set _ _).rest rfl _ _ rfl rfl) rfl ⟨by rw [HK.out, decide_eq_true (show k < n by have := HK.out; omega)]; rfl, setP_fr HS6.out _ _ _ (.inr HB.out.2.2)⟩
        | false =>
          have HC : Hid (∀ u : World, Calls Tryd.prog 52 #[ar C R s, .int .i64 (dn NX), .int .i64 (dn NY)] u fun e w' => e = .returned (.bool false) ∧ Still u w') := hid (fun u => rsolid_is C R (dn NX) (dn NY) s hz hC hsol u)
          have HV := hid (show rayT (solB C R s) X Y P Q n j = false by
            unfold rayT
            rw [HP.out.1, HP.out.2]
            exact hsol)
          clear hsol
          refine region_all (by kernel_rfl) (by kernel_rfl) ?_
          repeat (go_big_quiet_step ((first | (go_at_call 53; refine Calls.cl_same (rdown_any _ ?_ ?_ _) <;> omega) | (go_at_call 52; exact Calls.cl (HC.out _)))))
          refine wpQuiet_nil ?_
          intro w6 h6
          have l1 : w.heap.size ≠ w2.heap.size := by have := NL.out; omega
          have l2 : w.heap.size + 1 ≠ w2.heap.size := by have := NL.out; omega
          have l3 : w.heap.size + 1 + 1 ≠ w2.heap.size := by have := NL.out; omega
          have l4 : w.heap.size + 1 + 1 + 1 ≠ w2.heap.size := by have := NL.out; omega
          have a6 := setP_ab (a5.still h6) l1 NX NY
          have b6 := setP_pb (b5.still h6) l2 NX NY
          have c6 := setP_pb (c5.still h6) l3 NX NY
          have d6 := setP_pb (d5.still h6) l4 NX NY
          have v6 := (v5.still h6).set NX NY
          have HS6 := hid (setP_fr (Still.trans HS5.out h6) w2.heap.size NX NY (.inr (by have := NL.out; omega)))
          obtain ⟨q2, q3, qf⟩ := (v5.still h6).cells
          obtain ⟨s2, s3, sf⟩ := (y5.still h6).cells
          clear a5 b5 c5 d5 v5 y5 HS5 h6 i0 i1 i2 o0 o1 hne HC l1 l2 l3 l4
          go_wp2_with fail
          go_roundw
          case rel => exact ⟨j + 1, by omega, by omega, by go_num, fun i h1 h2 => by
              by_cases e : i = j
              · subst e; exact HV.out
              · exact HF.out i h1 (by omega), a6, b6, c6, d6, by
                rw [Nat.add_sub_cancel, HP.out.1, HP.out.2]; exact v6, HS6.out⟩
          case measure => simp [intOf]; omega
      · have HK := hid (show j - 1 = k by
          rw [← HE.out.2.2.2]
          exact (go_one (by omega) (fun i h1 h2 => HF.out i h1 (by omega)) (fun h => by omega)).symm)
        obtain ⟨i0, i1, jf⟩ := v4.cells
        obtain ⟨o0, o1, of⟩ := d4.cells
        go_wp2_with fail
        (try simp only [Exit.inBlock, Exit.then])
        exact bodyPost_ret ((d4.set _ _).rest rfl _ _ rfl rfl) rfl ⟨by rw [HK.out, decide_eq_false (show ¬ k < n by have := HK.out; omega)]; rfl, setP_fr HS4.out _ _ _ (.inr HB.out.2.2)⟩
end Go.Proofs.YtmbllkkoanjghaaDoor
namespace Go.Proofs.YtmbllkkoanjghaaDoor
open Pu Gp Ap

/-! ### Within the bounds -/
def inB2 (x : Int) : Prop := -2147483647 ≤ x ∧ x ≤ 2147483647
theorem addf_zero {x : Int} (h : inB2 x) : addf x 0 = x := by
  unfold addf
  rw [show bnd 0 = 0 by decide, bnd_id h.1 h.2, Int.add_zero, bnd_id h.1 h.2]
theorem addf_in (x y : Int) : inB2 (addf x y) := ⟨bnd_lo _, bnd_hi _⟩
theorem bnd_small {v : Int} (h0 : -67584 ≤ v) (h1 : v ≤ 67584) : bnd v = v := bnd_id (by omega) (by omega)
theorem addf_small {x v : Int} (h : inB2 x) (h0 : -67584 ≤ v) (h1 : v ≤ 67584) : addf x v = bnd (x + v) := by
  unfold addf
  rw [bnd_id h.1 h.2, bnd_small h0 h1]
/-- one step behind the other, the same way -/
theorem addf_more {x a b : Int} (h : inB2 x) (a0 : 0 ≤ a) (a1 : a ≤ 33792) (b0 : 0 ≤ b) (b1 : b ≤ 33792) : addf (addf x a) b = addf x (a + b) := by
  rw [addf_small (addf_in x a) (by omega) (by omega), addf_small h (by omega) (by omega), addf_small h (by omega) (by omega)]
  unfold bnd inB2 at *
  repeat' split
  all_goals omega
/-- between 0 and n -/
def wayP (m n : Int) : Prop := m = 0 ∨ (0 < n ∧ 0 < m ∧ m ≤ n) ∨ (n < 0 ∧ m < 0 ∧ n ≤ m)
theorem way_add {x v n : Int} (h : inB2 x) (h0 : -67584 ≤ v) (h1 : v ≤ 67584) (hw : wayP v n) : wayP (addf x v - x) n := by
  rw [addf_small h h0 h1]
  unfold wayP inB2 bnd at *
  repeat' split
  all_goals omega
theorem way_sgn {p : Int} {k : Nat} (hk : k ≤ p.natAbs) : wayP (sgn p * (k : Int)) p := by
  unfold wayP sgn
  repeat' split
  all_goals omega
theorem sgn_small {p : Int} {k : Nat} (h0 : -2048 ≤ p) (h1 : p ≤ 2048) (hk : k ≤ p.natAbs) : -2048 ≤ sgn p * (k : Int) ∧ sgn p * (k : Int) ≤ 2048 :=
  sgn_mul (sgn_in p).1 (sgn_in p).2 (by omega)
theorem sgn_full {p : Int} {k : Nat} (hk : k ≤ p.natAbs) : sgn p * (k : Int) = p ↔ k = p.natAbs := by
  unfold sgn
  repeat' split
  all_goals omega

/-! ### Where a body comes -/
section
variable {sol : Int → Int → Bool} {r X Y P Q : Int}
/-- it touches behind X no more than at first -/
theorem free_X (hX : inB2 X) (hY : inB2 Y) (h : bdy sol r X Y = false) : bdy sol r (addf X (sgn P * (kX sol r X Y P : Int))) Y = false := by
  by_cases hk : kX sol r X Y P = 0
  · rw [hk, show sgn P * ((0 : Nat) : Int) = 0 by omega, addf_zero hX]; exact h
  · have := go_free (fun j => bdy sol r (atS X (sgn P) j) (atS Y 0 j)) P.natAbs (kX sol r X Y P) (by omega) (Nat.le_refl _)
    unfold atS at this
    simp only [Int.zero_mul, addf_zero hY] at this
    exact this
theorem free_Y (hX : inB2 X) (hY : inB2 Y) (h : bdy sol r X Y = false) : bdy sol r X (addf Y (sgn Q * (kY sol r X Y Q : Int))) = false := by
  by_cases hk : kY sol r X Y Q = 0
  · rw [hk, show sgn Q * ((0 : Nat) : Int) = 0 by omega, addf_zero hY]; exact h
  · have := go_free (fun j => bdy sol r (atS X 0 j) (atS Y (sgn Q) j)) Q.natAbs (kY sol r X Y Q) (by omega) (Nat.le_refl _)
    unfold atS at this
    simp only [Int.zero_mul, addf_zero hX] at this
    exact this
end
theorem side_in (k n l m : Nat) : 0 ≤ side k n l m ∧ side k n l m ≤ 3 := by
  unfold side
  repeat' split
  all_goals omega
theorem side_zero {k n l m : Nat} (hk : k ≤ n) (hl : l ≤ m) : side k n l m = 0 ↔ k = n ∧ l = m := by
  unfold side
  repeat' split
  all_goals omega
/-- it came the whole way just if nothing stopped it (where no bound is met) -/
theorem whole_iff {X Y P Q : Int} {k l : Nat} (hX : inB2 X) (hY : inB2 Y) (p0 : -2048 ≤ P) (p1 : P ≤ 2048) (q0 : -2048 ≤ Q) (q1 : Q ≤ 2048) (hk : k ≤ P.natAbs) (hl : l ≤ Q.natAbs) (fX : inB2 (X + P)) (fY : inB2 (Y + Q)) :
    side k P.natAbs l Q.natAbs = 0 ↔ addf X (sgn P * (k : Int)) = X + P ∧ addf Y (sgn Q * (l : Int)) = Y + Q := by
  have sP := sgn_small p0 p1 hk
  have sQ := sgn_small q0 q1 hl
  have wP := way_sgn hk
  have wQ := way_sgn hl
  have eP := sgn_full hk
  have eQ := sgn_full hl
  rw [side_zero hk hl, addf_small hX (by omega) (by omega), addf_small hY (by omega) (by omega), ← eP, ← eQ]
  have bX : bnd (X + sgn P * (k : Int)) = X + sgn P * (k : Int) := bnd_id (by unfold wayP inB2 at *; omega) (by unfold wayP inB2 at *; omega)
  have bY : bnd (Y + sgn Q * (l : Int)) = Y + sgn Q * (l : Int) := bnd_id (by unfold wayP inB2 at *; omega) (by unfold wayP inB2 at *; omega)
  rw [bX, bY]
  omega

/-! ### Rays -/
theorem ray_way {p : Int} {n j : Nat} (p0 : -2048 ≤ p) (p1 : p ≤ 2048) (hj : j ≤ n) (hn : n ≤ 32) : wayP ((p * (j : Int)).tdiv (n : Int)) p ∧ -67584 ≤ (p * (j : Int)).tdiv (n : Int) ∧ (p * (j : Int)).tdiv (n : Int) ≤ 67584 := by
  have m := step_mul (k := j) p0 p1 (by omega)
  refine ⟨?_, tdiv_in m.1 m.2⟩
  by_cases hn0 : n = 0
  · subst hn0
    left; simp
  rcases Int.le_total 0 p with h | h
  · have h0 : 0 ≤ p * (j : Int) := Int.mul_nonneg h (by omega)
    rw [Int.tdiv_eq_ediv_of_nonneg h0]
    have a : 0 ≤ p * (j : Int) / (n : Int) := Int.ediv_nonneg h0 (by omega)
    have b : p * (j : Int) / (n : Int) ≤ p := by
      apply Int.ediv_le_of_le_mul (by omega)
      exact Int.mul_le_mul_of_nonneg_left (by omega) h
    unfold wayP; omega
  · have h0 : 0 ≤ -p * (j : Int) := Int.mul_nonneg (by omega) (by omega)
    have e : (p * (j : Int)).tdiv (n : Int) = -((-p * (j : Int)) / (n : Int)) := by
      rw [← Int.tdiv_eq_ediv_of_nonneg h0, Int.neg_mul, Int.neg_tdiv]; omega
    have a : 0 ≤ -p * (j : Int) / (n : Int) := Int.ediv_nonneg h0 (by omega)
    have b : -p * (j : Int) / (n : Int) ≤ -p := by
      apply Int.ediv_le_of_le_mul (by omega)
      exact Int.mul_le_mul_of_nonneg_left (by omega) (by omega)
    rw [e]; unfold wayP; omega
theorem rp_way {X p : Int} {n j : Nat} (hX : inB2 X) (p0 : -2048 ≤ p) (p1 : p ≤ 2048) (hj : j ≤ n) (hn : n ≤ 32) : wayP (rp X p n j - X) p := by
  unfold rp
  split
  · left; omega
  · obtain ⟨a, b, c⟩ := ray_way p0 p1 hj hn
    exact way_add hX b c a
theorem rp_end {X p : Int} {n : Nat} (hX : inB2 X) (h0 : n = 0 → p = 0) : rp X p n n = addf X p := by
  unfold rp
  split
  · rename_i h; rw [h0 h, addf_zero hX]
  · rename_i h
    rw [Int.mul_tdiv_cancel p (show (n : Int) ≠ 0 by omega)]
theorem ray_free {sol : Int → Int → Bool} {X Y p q : Int} {n : Nat} (h : sol (dn X) (dn Y) = false) :
    sol (dn (rp X p n (go (rayT sol X Y p q n) n))) (dn (rp Y q n (go (rayT sol X Y p q n) n))) = false := by
  by_cases hk : go (rayT sol X Y p q n) n = 0
  · rw [hk]; unfold rp; simp only [if_true]; exact h
  · exact go_free (rayT sol X Y p q n) n _ (by omega) (Nat.le_refl _)
theorem rayN_zero {p q : Int} (h : rayN p q = 0) : p = 0 ∧ q = 0 := by unfold rayN at h; omega
theorem rayN_le {p q : Int} (p0 : -2048 ≤ p) (p1 : p ≤ 2048) (q0 : -2048 ≤ q) (q1 : q ≤ 2048) : rayN p q ≤ 32 := by unfold rayN; omega

/-! ### Two slides, one behind the other, to the right -/
section
variable {sol : Int → Int → Bool} {r X Y : Int}
theorem atS_one {X : Int} (j : Nat) : atS X 1 j = addf X (j : Int) := by unfold atS; rw [Int.one_mul]
/-- how far to the right -/
def gR (sol : Int → Int → Bool) (r X Y : Int) (m : Nat) : Nat := go (fun j => bdy sol r (addf X (j : Int)) Y) m
theorem kX_right (hY : inB2 Y) (m : Nat) : kX sol r X Y (m : Int) = gR sol r X Y m := by
  unfold kX gR
  rw [show ((m : Nat) : Int).natAbs = m by omega]
  refine go_congr fun j h1 h2 => ?_
  have e1 : atS X (sgn (m : Int)) j = addf X (j : Int) := by
    have : sgn (m : Int) = 1 := by unfold sgn; rw [if_pos (by omega)]
    rw [this, atS_one]
  have e2 : atS Y 0 j = Y := by
    unfold atS
    rw [Int.zero_mul, addf_zero hY]
  rw [e1, e2]
theorem right_add (hX : inB2 X) {m n : Nat} (hm : m ≤ 1024) (hn : n ≤ 1024) (h : gR sol r X Y m = m) : gR sol r X Y (m + n) = m + gR sol r (addf X (m : Int)) Y n := by
  unfold gR at *
  rw [go_add h]
  have e : go (fun j => bdy sol r (addf X ((m + j : Nat) : Int)) Y) n = go (fun j => bdy sol r (addf (addf X (m : Int)) (j : Int)) Y) n := by
    refine go_congr fun j h1 h2 => ?_
    have e1 : addf (addf X (m : Int)) (j : Int) = addf X ((m + j : Nat) : Int) := by
      rw [addf_more hX (by omega) (by omega) (by omega) (by omega), Int.natCast_add]
    rw [e1]
  rw [e]
theorem right_less {m n : Nat} (hmn : m ≤ n) (h : gR sol r X Y m < m) : gR sol r X Y n = gR sol r X Y m := go_less hmn h
/-- what was stopped stays there -/
theorem right_stay (hX : inB2 X) {m : Nat} (hm : m ≤ 2048) (h : gR sol r X Y m < m) : gR sol r (addf X (gR sol r X Y m : Int)) Y 1 = 0 := by
  have hs := go_stop (fun j => bdy sol r (addf X (j : Int)) Y) m h
  have hle := go_le (fun j => bdy sol r (addf X (j : Int)) Y) m
  refine go_one (by omega) (fun j h1 h2 => by omega) (fun _ => ?_)
  show bdy sol r (addf (addf X (gR sol r X Y m : Int)) ((0 + 1 : Nat) : Int)) Y = true
  rw [addf_more hX (by omega) (by unfold gR; omega) (by omega) (by omega)]
  exact hs
end
end Go.Proofs.YtmbllkkoanjghaaDoor
