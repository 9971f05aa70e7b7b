/- A ray: the document's answer. -/
import Derived.Test.YtnoaomocdmkigaaSl
namespace Go.Proofs.Ytnoaomocdmkigaa
open Go.RowKit
open Pu Gp Ap

/-- where a ray is at its j-th step of n -/
def rp (X p : Int) (n j : Nat) : Int := if j = 0 then X else addf X ((p * (j : Int)).tdiv (n : Int))
def rayN (p q : Int) : Nat := (max p.natAbs q.natAbs + 63) / 64
def rayT (sol : Int → Int → Bool) (X Y p q : Int) (n j : Nat) : Bool := sol (dn (rp X p n j)) (dn (rp Y q n j))
theorem tdiv_in {v : Int} {n : Nat} (h0 : -67584 ≤ v) (h1 : v ≤ 67584) : -67584 ≤ v.tdiv (n : Int) ∧ v.tdiv (n : Int) ≤ 67584 := by
  rcases Int.le_total 0 v with h | h
  · rw [Int.tdiv_eq_ediv_of_nonneg h]
    have a : 0 ≤ v / (n : Int) := Int.ediv_nonneg h (by omega)
    have b : v / (n : Int) ≤ v := Int.ediv_le_self _ h
    omega
  · have e : v.tdiv (n : Int) = -((-v) / (n : Int)) := by
      rw [← Int.tdiv_eq_ediv_of_nonneg (show 0 ≤ -v by omega), Int.neg_tdiv]; omega
    have a : 0 ≤ (-v) / (n : Int) := Int.ediv_nonneg (by omega) (by omega)
    have b : (-v) / (n : Int) ≤ -v := Int.ediv_le_self _ (by omega)
    omega
theorem wrap_t {v : Int} (h0 : -67584 ≤ v) (h1 : v ≤ 67584) : IntKind.i64.wrap v = v := by rw [IntKind.wrap_i64]; omega
theorem step_mul {p : Int} {k : Nat} (h0 : -2048 ≤ p) (h1 : p ≤ 2048) (hk : k ≤ 33) : -67584 ≤ p * (k : Int) ∧ p * (k : Int) ≤ 67584 := by
  have : (p * (k : Int)).natAbs ≤ 2048 * 33 := by rw [Int.natAbs_mul]; exact Nat.mul_le_mul (by omega) (by omega)
  omega
set_option maxHeartbeats 4000000 in
set_option maxRecDepth 100000 in
theorem rray_any (C R x y p q : Int) (s : ByteArray) (hz : s.size ≤ 281474976710656) (hC : C ≤ 9223372036854775807) (X Y P Q : Int) (n k : Nat)
    (eX : bnd x = X) (eY : bnd y = Y) (eP : stp p = P) (eQ : stp q = Q) (en : rayN P Q = n) (ek : go (rayT (solB C R s) X Y P Q n) n = k) (w : World) :
    Calls Try.prog 30 #[ar C R s, pt x y, pt p q] w fun e w' => e = .returned (.tuple #[pt (rp X P n k) (rp Y Q n k), .bool (decide (k < n))]) ∧ Still w w' := by
  have A0 := Still.alloc w (.cells #[.int .i64 C, .int .i64 R, .string s] 24)
  have A1 := Still.alloc (newA w C R s) (.cells #[.int .i64 x, .int .i64 y] 36)
  have A2 := Still.alloc (newP (newA w C R s) x y) (.cells #[.int .i64 p, .int .i64 q] 36)
  have A3 := Still.alloc (newP (newP (newA w C R s) x y) p q) (.cells #[.int .i64 0, .int .i64 0] 36)
  have a0 := (((newA_ab w C R s).still A1).still A2).still A3
  have b0 := ((newP_pb (newA w C R s) x y).still A2).still A3
  have c0 := (newP_pb (newP (newA w C R s) x y) p q).still A3
  have d0 := newP_pb (newP (newP (newA w C R s) x y) p q) 0 0
  simp only [size_alloc] at b0 c0 d0
  have HS0 := hid (((A0.trans A1).trans A2).trans A3)
  clear A0 A1 A2 A3
  have HN := hid (show w.heap.size ≠ w.heap.size + 1 ∧ w.heap.size ≠ w.heap.size + 1 + 1 ∧ w.heap.size + 1 ≠ w.heap.size + 1 + 1 ∧ w.heap.size + 1 + 1 ≠ w.heap.size + 1 ∧ w.heap.size + 1 + 1 + 1 ≠ w.heap.size + 1 ∧ w.heap.size + 1 + 1 + 1 ≠ w.heap.size + 1 + 1 by omega)
  have HB := hid (show w.heap.size ≤ w.heap.size + 1 ∧ w.heap.size ≤ w.heap.size + 1 + 1 ∧ w.heap.size ≤ w.heap.size + 1 + 1 + 1 by omega)
  have pb := stp_in p
  have qb := stp_in q
  rw [eP] at pb
  rw [eQ] at qb
  obtain ⟨p0, p1⟩ := pb
  obtain ⟨q0, q1⟩ := qb
  have n1 : n ≤ 32 := by rw [← en]; unfold rayN; omega
  have HX := hid (show (-2147483647 ≤ X ∧ X ≤ 2147483647) ∧ (-2147483647 ≤ Y ∧ Y ≤ 2147483647) by rw [← eX, ← eY]; exact ⟨⟨bnd_lo _, bnd_hi _⟩, ⟨bnd_lo _, bnd_hi _⟩⟩)
  have HE := hid (And.intro (And.intro eX eY) (And.intro (And.intro eP eQ) (And.intro en ek)))
  clear eX eY eP eQ ek
  go_enter Try.func30, Try.ntmps30
  go_wp2_with fail
  refine (rgbound_any x y _).mono ?_
  rintro e w1 ⟨rfl, h1⟩
  rw [HE.out.1.1, HE.out.1.2]
  obtain ⟨f0, f1, ff⟩ := (b0.still h1).cells
  have a1 := setP_ab (a0.still h1) HN.out.1 X Y
  have b1 := (b0.still h1).set X Y
  have c1 := setP_pb (c0.still h1) HN.out.2.2.2.1 X Y
  have d1 := setP_pb (d0.still h1) HN.out.2.2.2.2.1 X Y
  have HS1 := hid (setP_fr (HS0.out.trans h1) (w.heap.size + 1) X Y (.inr HB.out.1))
  clear a0 b0 c0 d0 HS0 h1
  obtain ⟨g0, g1, gf⟩ := c1.cells
  go_wp2_with fail
  refine (rstep_any p q _).mono ?_
  rintro e w2 ⟨rfl, h2⟩
  rw [HE.out.2.1.1, HE.out.2.1.2]
  clear f0 f1 ff g0 g1 gf
  obtain ⟨f0, f1, ff⟩ := (c1.still h2).cells
  have a2 := setP_ab (a1.still h2) HN.out.2.1 P Q
  have b2 := setP_pb (b1.still h2) HN.out.2.2.1 P Q
  have c2 := (c1.still h2).set P Q
  have d2 := setP_pb (d1.still h2) HN.out.2.2.2.2.2 P Q
  have HS2 := hid (setP_fr (Still.trans HS1.out h2) (w.heap.size + 1 + 1) P Q (.inr HB.out.2.1))
  clear a1 b1 c1 d1 HS1 h2
  have A3 := Still.alloc (setP w2 (w.heap.size + 1 + 1) P Q) (.cells #[.int .i64 X, .int .i64 Y] 36)
  have a3 := a2.still A3
  have b3 := b2.still A3
  have c3 := c2.still A3
  have d3 := d2.still A3
  have v3 := newP_pb (setP w2 (w.heap.size + 1 + 1) P Q) X Y
  rw [setP_size] at v3
  have HS3 := hid (Still.trans HS2.out A3)
  have NL := hid (show w.heap.size + 1 + 1 + 1 < w2.heap.size by have := block_lt d2; rw [setP_size] at this; exact this)
  obtain ⟨g0, g1, gf⟩ := c2.cells
  obtain ⟨m0, m1, mf⟩ := b2.cells
  clear a2 b2 c2 d2 HS2 A3
  have hm : (P.natAbs < Q.natAbs ∧ (((Q.natAbs : Nat) : Int) + 63) / 64 = (n : Int)) ∨ (¬ P.natAbs < Q.natAbs ∧ (((P.natAbs : Nat) : Int) + 63) / 64 = (n : Int)) := by
    unfold rayN at en
    by_cases h : P.natAbs < Q.natAbs
    · exact .inl ⟨h, by omega⟩
    · exact .inr ⟨h, by omega⟩
  clear en
  rcases hm with ⟨hm, hd⟩ | ⟨hm, hd⟩
  · go_wp2_with (first | (go_at_call 57; (first | with_reducible refine (rabs_s P p0 p1 _).mono ?_ | with_reducible refine (rabs_s Q q0 q1 _).mono ?_); rintro e w' ⟨he, hw⟩; rw [he, hw]; clear he hw w'))
    rw [hd]
    clear hd hm f0 f1 ff g0 g1 gf m0 m1 mf
    go_loopw [12] (fun vj wr => ∃ j : Nat, 1 ≤ j ∧ j ≤ n + 1 ∧ vj = .int .i64 (j : Int) ∧ (∀ i, 1 ≤ i → i < j → rayT (solB C R s) X Y P Q n i = false) ∧ Ab wr w.heap.size C R s ∧ Pb wr (w.heap.size + 1) X Y ∧ Pb wr (w.heap.size + 1 + 1) P Q ∧ Pb wr (w.heap.size + 1 + 1 + 1) 0 0 ∧
        Pb wr w2.heap.size (rp X P n (j - 1)) (rp Y Q n (j - 1)) ∧ Still w wr) (fun vj _ => n + 1 - (intOf vj).toNat)
    case atStart => exact ⟨1, by omega, by omega, rfl, fun i h1 h2 => by omega, a3, b3, c3, d3, v3, HS3.out⟩
    case round =>
      obtain ⟨j, j1, j2, rfl, hfree, a4, b4, c4, d4, v4, hs⟩ := hrel
      have HF := hid hfree
      have HS4 := hid hs
      clear hfree hs a3 b3 c3 d3 v3 HS3
      by_cases hlt : j ≤ n
      · obtain ⟨t0, t1⟩ := step_mul p0 p1 (show j ≤ 33 by omega)
        obtain ⟨t2, t3⟩ := step_mul q0 q1 (show j ≤ 33 by omega)
        obtain ⟨t4, t5⟩ := tdiv_in (n := n) t0 t1
        obtain ⟨t6, t7⟩ := tdiv_in (n := n) t2 t3
        have W1 := wrap_t t4 t5
        have W2 := wrap_t t6 t7
        have W3 := wrap_t t0 t1
        have W4 := wrap_t t2 t3
        have nz : ¬ n = 0 := by omega
        obtain ⟨NX, eNX⟩ : ∃ NX, addf X ((P * (j : Int)).tdiv (n : Int)) = NX := ⟨_, rfl⟩
        obtain ⟨NY, eNY⟩ : ∃ NY, addf Y ((Q * (j : Int)).tdiv (n : Int)) = NY := ⟨_, rfl⟩
        have bX : -2147483647 ≤ NX ∧ NX ≤ 2147483647 := by rw [← eNX]; exact ⟨bnd_lo _, bnd_hi _⟩
        have bY : -2147483647 ≤ NY ∧ NY ≤ 2147483647 := by rw [← eNY]; exact ⟨bnd_lo _, bnd_hi _⟩
        have HP := hid (show rp X P n j = NX ∧ rp Y Q n j = NY by
          unfold rp; rw [if_neg (by omega), if_neg (by omega)]; exact ⟨eNX, eNY⟩)
        have HA : Hid (∀ u : World, Calls Try.prog 60 #[pt X Y, pt ((P * (j : Int)).tdiv (n : Int)) ((Q * (j : Int)).tdiv (n : Int))] u fun e w' => e = .returned (pt NX NY) ∧ Still u w') := hid (fun u => by
          have h := rgadd_any X Y ((P * (j : Int)).tdiv (n : Int)) ((Q * (j : Int)).tdiv (n : Int)) u
          rw [eNX, eNY] at h
          exact h)
        clear eNX eNY
        go_wp2_with fail
        refine region_var (on := _) 15 13 (.cells #[.int .i64 0, .int .i64 0] 36)
          [pt X Y, .pointer (some ⟨w.heap.size + 1 + 1, 0, none⟩), .int .i64 P, .int .i64 (j : Int), .int .i64 (P * (j : Int)), .int .i64 (n : Int), .int .i64 ((P * (j : Int)).tdiv (n : Int)), .pointer (some ⟨w.heap.size + 1 + 1, 1, none⟩), .int .i64 Q, .int .i64 (j : Int), .int .i64 (Q * (j : Int)), .int .i64 (n : Int), .int .i64 ((Q * (j : Int)).tdiv (n : Int)), pt ((P * (j : Int)).tdiv (n : Int)) ((Q * (j : Int)).tdiv (n : Int)), pt NX NY]
          ⟨#[ar C R s, pt x y, pt p q, .pointer (some ⟨w.heap.size, 0, none⟩), .pointer (some ⟨w.heap.size + 1, 0, none⟩), .pointer (some ⟨w.heap.size + 1 + 1, 0, none⟩), .pointer (some ⟨w.heap.size + 1 + 1 + 1, 0, none⟩), u7, .int .i64 ((Q.natAbs : Nat) : Int), .int .i64 ((Q.natAbs : Nat) : Int), .int .i64 (n : Int), .pointer (some ⟨w2.heap.size, 0, none⟩), .int .i64 (j : Int), u13, u14, .agg #[.int .i64 x, .int .i64 y], pt X Y, .agg #[.int .i64 p, .int .i64 q], pt P Q, .pointer (some ⟨w.heap.size + 1 + 1, 0, none⟩), .int .i64 P, .int .i64 ((P.natAbs : Nat) : Int), .pointer (some ⟨w.heap.size + 1 + 1, 1, none⟩), .int .i64 Q, .int .i64 ((Q.natAbs : Nat) : Int), .int .i64 ((Q.natAbs : Nat) : Int), .int .i64 ((P.natAbs : Nat) : Int), .bool true, .int .i64 ((Q.natAbs : Nat) : Int), .int .i64 ((Q.natAbs : Nat) : Int), .int .i64 (((Q.natAbs : Nat) : Int) + 63), .int .i64 (n : Int), .agg #[.int .i64 X, .int .i64 Y], .int .i64 (j : Int), .int .i64 (n : Int), .bool true, u36, u37, pt X Y, .pointer (some ⟨w.heap.size + 1 + 1, 0, none⟩), .int .i64 P, .int .i64 (j : Int), .int .i64 (P * (j : Int)), .int .i64 (n : Int), .int .i64 ((P * (j : Int)).tdiv (n : Int)), .pointer (some ⟨w.heap.size + 1 + 1, 1, none⟩), .int .i64 Q, .int .i64 (j : Int), .int .i64 (Q * (j : Int)), .int .i64 (n : Int), .int .i64 ((Q * (j : Int)).tdiv (n : Int)), pt ((P * (j : Int)).tdiv (n : Int)) ((Q * (j : Int)).tdiv (n : Int)), pt NX NY, u53, u54, u55, u56, u57, u58, u59, u60, u61, u62, u63, undef], []⟩
          (by kernel_rfl) (by kernel_rfl) rfl rfl rfl (by kernel_rfl) (by kernel_rfl) (show 13 < 65 by omega) ?_ ?_ ?_
        · simp only [List.take_succ_cons, List.take_zero, wpEach, and_true]
          refine ⟨?_, ?_, ?_, ?_, ?_, ?_, ?_, ?_, ?_, ?_, ?_, ?_, ?_, ?_, ?_⟩
          all_goals
            intro u hu
            obtain ⟨g0, g1, gf⟩ := (b4.still hu).cells
            obtain ⟨i0, i1, jf⟩ := (c4.still hu).cells
            go_simp
          all_goals exact HA.out u
        · intro u _ z
          go_simp
        simp only [List.drop_succ_cons, List.drop_zero]
        intro w5 g hs5 hge hz5
        have N0 : w.heap.size ≠ g := by have := block_lt a4; omega
        have N1 : w.heap.size + 1 ≠ g := by have := block_lt b4; omega
        have N2 : w.heap.size + 1 + 1 ≠ g := by have := block_lt c4; omega
        have N3 : w.heap.size + 1 + 1 + 1 ≠ g := by have := block_lt d4; omega
        have N4 : w2.heap.size ≠ g := by have := block_lt v4; omega
        have NG : w.heap.size ≤ g := by have := block_lt a4; omega
        have x5 : Pb w5 g 0 0 := hz5
        obtain ⟨e0, e1, ef⟩ := x5.cells
        have a5 := setP_ab (a4.still hs5) N0 NX NY
        have b5 := setP_pb (b4.still hs5) N1 NX NY
        have c5 := setP_pb (c4.still hs5) N2 NX NY
        have d5 := setP_pb (d4.still hs5) N3 NX NY
        have v5 := setP_pb (v4.still hs5) N4 NX NY
        have y5 := x5.set NX NY
        have HS5 := hid (setP_fr (HS4.out.trans hs5) g NX NY (.inr NG))
        clear a4 b4 c4 d4 v4 HS4 hs5 hge hz5 x5 N0 N1 N2 N3 N4 NG W1 W2 W3 W4 t0 t1 t2 t3 t4 t5 t6 t7 HA
        simp only [Act.put, List.setIfInBounds_toArray, List.set_cons_succ, List.set_cons_zero]
        go_wp2_with fail
        obtain ⟨W5, eW5⟩ : ∃ W5, setP w5 g NX NY = W5 := ⟨_, rfl⟩
        rw [show (w5.setCell ⟨g, 0, none⟩ (.int .i64 NX)).setCell ⟨g, 1, none⟩ (.int .i64 NY) = W5 from eW5]
        rw [eW5] at a5 b5 c5 d5 v5 y5 HS5
        clear eW5 e0 e1 ef
        have i0 := Cl.cell a5.cells.1
        have i1 := Cl.cell a5.cells.2.1
        have i2 := Cl.cell a5.cells.2.2.1
        have o0 := Cl.cell y5.cells.1
        have o1 := Cl.cell y5.cells.2.1
        have hne := Aft.here W5
        obtain ⟨bX0, bX1⟩ := bX
        obtain ⟨bY0, bY1⟩ := bY
        cases hsol : solB C R s (dn NX) (dn NY) with
        | true =>
          have HC : Hid (∀ u : World, Calls Try.prog 24 #[ar C R s, .int .i64 (dn NX), .int .i64 (dn NY)] u fun e w' => e = .returned (.bool true) ∧ Still u w') := hid (fun u => rsolid_is C R (dn NX) (dn NY) s hz hC hsol u)
          have HK := hid (show j - 1 = k by
            rw [← HE.out.2.2.2]
            refine (go_one (by omega) (fun i h1 h2 => HF.out i h1 (by omega)) (fun _ => ?_)).symm
            rw [show j - 1 + 1 = j by omega]
            unfold rayT
            rw [HP.out.1, HP.out.2]
            exact hsol)
          clear hsol
          refine region_all (by kernel_rfl) (by kernel_rfl) ?_
          repeat (go_big_quiet_step ((first | (go_at_call 49; refine Calls.cl_same (rdown_any _ ?_ ?_ _) <;> omega) | (go_at_call 24; exact Calls.cl (HC.out _)))))
          refine wpQuiet_nil ?_
          intro w6 h6
          have v6 := v5.still h6
          have d6 := d5.still h6
          have HS6 := hid (Still.trans HS5.out h6)
          clear a5 b5 c5 d5 v5 y5 HS5 h6 i0 i1 i2 o0 o1 hne HC
          obtain ⟨i0, i1, jf⟩ := v6.cells
          obtain ⟨o0, o1, of⟩ := d6.cells
          go_wp2_with fail
          (try simp only [Exit.inBlock, Exit.then])
          exact bodyPost_ret ((d6.set _ _).rest rfl _ _ rfl rfl) rfl ⟨by rw [HK.out, decide_eq_true (show k < n by have := HK.out; omega)]; rfl, setP_fr HS6.out _ _ _ (.inr HB.out.2.2)⟩
        | false =>
          have HC : Hid (∀ u : World, Calls Try.prog 24 #[ar C R s, .int .i64 (dn NX), .int .i64 (dn NY)] u fun e w' => e = .returned (.bool false) ∧ Still u w') := hid (fun u => rsolid_is C R (dn NX) (dn NY) s hz hC hsol u)
          have HV := hid (show rayT (solB C R s) X Y P Q n j = false by
            unfold rayT
            rw [HP.out.1, HP.out.2]
            exact hsol)
          clear hsol
          refine region_all (by kernel_rfl) (by kernel_rfl) ?_
          repeat (go_big_quiet_step ((first | (go_at_call 49; refine Calls.cl_same (rdown_any _ ?_ ?_ _) <;> omega) | (go_at_call 24; exact Calls.cl (HC.out _)))))
          refine wpQuiet_nil ?_
          intro w6 h6
          have l1 : w.heap.size ≠ w2.heap.size := by have := NL.out; omega
          have l2 : w.heap.size + 1 ≠ w2.heap.size := by have := NL.out; omega
          have l3 : w.heap.size + 1 + 1 ≠ w2.heap.size := by have := NL.out; omega
          have l4 : w.heap.size + 1 + 1 + 1 ≠ w2.heap.size := by have := NL.out; omega
          have a6 := setP_ab (a5.still h6) l1 NX NY
          have b6 := setP_pb (b5.still h6) l2 NX NY
          have c6 := setP_pb (c5.still h6) l3 NX NY
          have d6 := setP_pb (d5.still h6) l4 NX NY
          have v6 := (v5.still h6).set NX NY
          have HS6 := hid (setP_fr (Still.trans HS5.out h6) w2.heap.size NX NY (.inr (by have := NL.out; omega)))
          obtain ⟨q2, q3, qf⟩ := (v5.still h6).cells
          obtain ⟨s2, s3, sf⟩ := (y5.still h6).cells
          clear a5 b5 c5 d5 v5 y5 HS5 h6 i0 i1 i2 o0 o1 hne HC l1 l2 l3 l4
          go_wp2_with fail
          go_roundw
          case rel => exact ⟨j + 1, by omega, by omega, by go_num, fun i h1 h2 => by
              by_cases e : i = j
              · subst e; exact HV.out
              · exact HF.out i h1 (by omega), a6, b6, c6, d6, by
                rw [Nat.add_sub_cancel, HP.out.1, HP.out.2]; exact v6, HS6.out⟩
          case measure => simp [intOf]; omega
      · have HK := hid (show j - 1 = k by
          rw [← HE.out.2.2.2]
          exact (go_one (by omega) (fun i h1 h2 => HF.out i h1 (by omega)) (fun h => by omega)).symm)
        obtain ⟨i0, i1, jf⟩ := v4.cells
        obtain ⟨o0, o1, of⟩ := d4.cells
        go_wp2_with fail
        (try simp only [Exit.inBlock, Exit.then])
        exact bodyPost_ret ((d4.set _ _).rest rfl _ _ rfl rfl) rfl ⟨by rw [HK.out, decide_eq_false (show ¬ k < n by have := HK.out; omega)]; rfl, setP_fr HS4.out _ _ _ (.inr HB.out.2.2)⟩
  · go_wp2_with (first | (go_at_call 57; (first | with_reducible refine (rabs_s P p0 p1 _).mono ?_ | with_reducible refine (rabs_s Q q0 q1 _).mono ?_); rintro e w' ⟨he, hw⟩; rw [he, hw]; clear he hw w'))
    rw [hd]
    clear hd hm f0 f1 ff g0 g1 gf m0 m1 mf
    go_loopw [12] (fun vj wr => ∃ j : Nat, 1 ≤ j ∧ j ≤ n + 1 ∧ vj = .int .i64 (j : Int) ∧ (∀ i, 1 ≤ i → i < j → rayT (solB C R s) X Y P Q n i = false) ∧ Ab wr w.heap.size C R s ∧ Pb wr (w.heap.size + 1) X Y ∧ Pb wr (w.heap.size + 1 + 1) P Q ∧ Pb wr (w.heap.size + 1 + 1 + 1) 0 0 ∧
        Pb wr w2.heap.size (rp X P n (j - 1)) (rp Y Q n (j - 1)) ∧ Still w wr) (fun vj _ => n + 1 - (intOf vj).toNat)
    case atStart => exact ⟨1, by omega, by omega, rfl, fun i h1 h2 => by omega, a3, b3, c3, d3, v3, HS3.out⟩
    case round =>
      obtain ⟨j, j1, j2, rfl, hfree, a4, b4, c4, d4, v4, hs⟩ := hrel
      have HF := hid hfree
      have HS4 := hid hs
      clear hfree hs a3 b3 c3 d3 v3 HS3
      by_cases hlt : j ≤ n
      · obtain ⟨t0, t1⟩ := step_mul p0 p1 (show j ≤ 33 by omega)
        obtain ⟨t2, t3⟩ := step_mul q0 q1 (show j ≤ 33 by omega)
        obtain ⟨t4, t5⟩ := tdiv_in (n := n) t0 t1
        obtain ⟨t6, t7⟩ := tdiv_in (n := n) t2 t3
        have W1 := wrap_t t4 t5
        have W2 := wrap_t t6 t7
        have W3 := wrap_t t0 t1
        have W4 := wrap_t t2 t3
        have nz : ¬ n = 0 := by omega
        obtain ⟨NX, eNX⟩ : ∃ NX, addf X ((P * (j : Int)).tdiv (n : Int)) = NX := ⟨_, rfl⟩
        obtain ⟨NY, eNY⟩ : ∃ NY, addf Y ((Q * (j : Int)).tdiv (n : Int)) = NY := ⟨_, rfl⟩
        have bX : -2147483647 ≤ NX ∧ NX ≤ 2147483647 := by rw [← eNX]; exact ⟨bnd_lo _, bnd_hi _⟩
        have bY : -2147483647 ≤ NY ∧ NY ≤ 2147483647 := by rw [← eNY]; exact ⟨bnd_lo _, bnd_hi _⟩
        have HP := hid (show rp X P n j = NX ∧ rp Y Q n j = NY by
          unfold rp; rw [if_neg (by omega), if_neg (by omega)]; exact ⟨eNX, eNY⟩)
        have HA : Hid (∀ u : World, Calls Try.prog 60 #[pt X Y, pt ((P * (j : Int)).tdiv (n : Int)) ((Q * (j : Int)).tdiv (n : Int))] u fun e w' => e = .returned (pt NX NY) ∧ Still u w') := hid (fun u => by
          have h := rgadd_any X Y ((P * (j : Int)).tdiv (n : Int)) ((Q * (j : Int)).tdiv (n : Int)) u
          rw [eNX, eNY] at h
          exact h)
        clear eNX eNY
        go_wp2_with fail
        refine region_var (on := _) 15 13 (.cells #[.int .i64 0, .int .i64 0] 36)
          [pt X Y, .pointer (some ⟨w.heap.size + 1 + 1, 0, none⟩), .int .i64 P, .int .i64 (j : Int), .int .i64 (P * (j : Int)), .int .i64 (n : Int), .int .i64 ((P * (j : Int)).tdiv (n : Int)), .pointer (some ⟨w.heap.size + 1 + 1, 1, none⟩), .int .i64 Q, .int .i64 (j : Int), .int .i64 (Q * (j : Int)), .int .i64 (n : Int), .int .i64 ((Q * (j : Int)).tdiv (n : Int)), pt ((P * (j : Int)).tdiv (n : Int)) ((Q * (j : Int)).tdiv (n : Int)), pt NX NY]
          ⟨#[ar C R s, pt x y, pt p q, .pointer (some ⟨w.heap.size, 0, none⟩), .pointer (some ⟨w.heap.size + 1, 0, none⟩), .pointer (some ⟨w.heap.size + 1 + 1, 0, none⟩), .pointer (some ⟨w.heap.size + 1 + 1 + 1, 0, none⟩), u7, .int .i64 ((P.natAbs : Nat) : Int), .int .i64 ((Q.natAbs : Nat) : Int), .int .i64 (n : Int), .pointer (some ⟨w2.heap.size, 0, none⟩), .int .i64 (j : Int), u13, u14, .agg #[.int .i64 x, .int .i64 y], pt X Y, .agg #[.int .i64 p, .int .i64 q], pt P Q, .pointer (some ⟨w.heap.size + 1 + 1, 0, none⟩), .int .i64 P, .int .i64 ((P.natAbs : Nat) : Int), .pointer (some ⟨w.heap.size + 1 + 1, 1, none⟩), .int .i64 Q, .int .i64 ((Q.natAbs : Nat) : Int), .int .i64 ((Q.natAbs : Nat) : Int), .int .i64 ((P.natAbs : Nat) : Int), .bool false, undef, .int .i64 ((P.natAbs : Nat) : Int), .int .i64 (((P.natAbs : Nat) : Int) + 63), .int .i64 (n : Int), .agg #[.int .i64 X, .int .i64 Y], .int .i64 (j : Int), .int .i64 (n : Int), .bool true, u36, u37, pt X Y, .pointer (some ⟨w.heap.size + 1 + 1, 0, none⟩), .int .i64 P, .int .i64 (j : Int), .int .i64 (P * (j : Int)), .int .i64 (n : Int), .int .i64 ((P * (j : Int)).tdiv (n : Int)), .pointer (some ⟨w.heap.size + 1 + 1, 1, none⟩), .int .i64 Q, .int .i64 (j : Int), .int .i64 (Q * (j : Int)), .int .i64 (n : Int), .int .i64 ((Q * (j : Int)).tdiv (n : Int)), pt ((P * (j : Int)).tdiv (n : Int)) ((Q * (j : Int)).tdiv (n : Int)), pt NX NY, u53, u54, u55, u56, u57, u58, u59, u60, u61, u62, u63, undef], []⟩
          (by kernel_rfl) (by kernel_rfl) rfl rfl rfl (by kernel_rfl) (by kernel_rfl) (show 13 < 65 by omega) ?_ ?_ ?_
        · simp only [List.take_succ_cons, List.take_zero, wpEach, and_true]
          refine ⟨?_, ?_, ?_, ?_, ?_, ?_, ?_, ?_, ?_, ?_, ?_, ?_, ?_, ?_, ?_⟩
          all_goals
            intro u hu
            obtain ⟨g0, g1, gf⟩ := (b4.still hu).cells
            obtain ⟨i0, i1, jf⟩ := (c4.still hu).cells
            go_simp
          all_goals exact HA.out u
        · intro u _ z
          go_simp
        simp only [List.drop_succ_cons, List.drop_zero]
        intro w5 g hs5 hge hz5
        have N0 : w.heap.size ≠ g := by have := block_lt a4; omega
        have N1 : w.heap.size + 1 ≠ g := by have := block_lt b4; omega
        have N2 : w.heap.size + 1 + 1 ≠ g := by have := block_lt c4; omega
        have N3 : w.heap.size + 1 + 1 + 1 ≠ g := by have := block_lt d4; omega
        have N4 : w2.heap.size ≠ g := by have := block_lt v4; omega
        have NG : w.heap.size ≤ g := by have := block_lt a4; omega
        have x5 : Pb w5 g 0 0 := hz5
        obtain ⟨e0, e1, ef⟩ := x5.cells
        have a5 := setP_ab (a4.still hs5) N0 NX NY
        have b5 := setP_pb (b4.still hs5) N1 NX NY
        have c5 := setP_pb (c4.still hs5) N2 NX NY
        have d5 := setP_pb (d4.still hs5) N3 NX NY
        have v5 := setP_pb (v4.still hs5) N4 NX NY
        have y5 := x5.set NX NY
        have HS5 := hid (setP_fr (HS4.out.trans hs5) g NX NY (.inr NG))
        clear a4 b4 c4 d4 v4 HS4 hs5 hge hz5 x5 N0 N1 N2 N3 N4 NG W1 W2 W3 W4 t0 t1 t2 t3 t4 t5 t6 t7 HA
        simp only [Act.put, List.setIfInBounds_toArray, List.set_cons_succ, List.set_cons_zero]
        go_wp2_with fail
        obtain ⟨W5, eW5⟩ : ∃ W5, setP w5 g NX NY = W5 := ⟨_, rfl⟩
        rw [show (w5.setCell ⟨g, 0, none⟩ (.int .i64 NX)).setCell ⟨g, 1, none⟩ (.int .i64 NY) = W5 from eW5]
        rw [eW5] at a5 b5 c5 d5 v5 y5 HS5
        clear eW5 e0 e1 ef
        have i0 := Cl.cell a5.cells.1
        have i1 := Cl.cell a5.cells.2.1
        have i2 := Cl.cell a5.cells.2.2.1
        have o0 := Cl.cell y5.cells.1
        have o1 := Cl.cell y5.cells.2.1
        have hne := Aft.here W5
        obtain ⟨bX0, bX1⟩ := bX
        obtain ⟨bY0, bY1⟩ := bY
        cases hsol : solB C R s (dn NX) (dn NY) with
        | true =>
          have HC : Hid (∀ u : World, Calls Try.prog 24 #[ar C R s, .int .i64 (dn NX), .int .i64 (dn NY)] u fun e w' => e = .returned (.bool true) ∧ Still u w') := hid (fun u => rsolid_is C R (dn NX) (dn NY) s hz hC hsol u)
          have HK := hid (show j - 1 = k by
            rw [← HE.out.2.2.2]
            refine (go_one (by omega) (fun i h1 h2 => HF.out i h1 (by omega)) (fun _ => ?_)).symm
            rw [show j - 1 + 1 = j by omega]
            unfold rayT
            rw [HP.out.1, HP.out.2]
            exact hsol)
          clear hsol
          refine region_all (by kernel_rfl) (by kernel_rfl) ?_
          repeat (go_big_quiet_step ((first | (go_at_call 49; refine Calls.cl_same (rdown_any _ ?_ ?_ _) <;> omega) | (go_at_call 24; exact Calls.cl (HC.out _)))))
          refine wpQuiet_nil ?_
          intro w6 h6
          have v6 := v5.still h6
          have d6 := d5.still h6
          have HS6 := hid (Still.trans HS5.out h6)
          clear a5 b5 c5 d5 v5 y5 HS5 h6 i0 i1 i2 o0 o1 hne HC
          obtain ⟨i0, i1, jf⟩ := v6.cells
          obtain ⟨o0, o1, of⟩ := d6.cells
          go_wp2_with fail
          (try simp only [Exit.inBlock, Exit.then])
          exact bodyPost_ret ((d6.set _ _).rest rfl _ _ rfl rfl) rfl ⟨by rw [HK.out, decide_eq_true (show k < n by have := HK.out; omega)]; rfl, setP_fr HS6.out _ _ _ (.inr HB.out.2.2)⟩
        | false =>
          have HC : Hid (∀ u : World, Calls Try.prog 24 #[ar C R s, .int .i64 (dn NX), .int .i64 (dn NY)] u fun e w' => e = .returned (.bool false) ∧ Still u w') := hid (fun u => rsolid_is C R (dn NX) (dn NY) s hz hC hsol u)
          have HV := hid (show rayT (solB C R s) X Y P Q n j = false by
            unfold rayT
            rw [HP.out.1, HP.out.2]
            exact hsol)
          clear hsol
          refine region_all (by kernel_rfl) (by kernel_rfl) ?_
          repeat (go_big_quiet_step ((first | (go_at_call 49; refine Calls.cl_same (rdown_any _ ?_ ?_ _) <;> omega) | (go_at_call 24; exact Calls.cl (HC.out _)))))
          refine wpQuiet_nil ?_
          intro w6 h6
          have l1 : w.heap.size ≠ w2.heap.size := by have := NL.out; omega
          have l2 : w.heap.size + 1 ≠ w2.heap.size := by have := NL.out; omega
          have l3 : w.heap.size + 1 + 1 ≠ w2.heap.size := by have := NL.out; omega
          have l4 : w.heap.size + 1 + 1 + 1 ≠ w2.heap.size := by have := NL.out; omega
          have a6 := setP_ab (a5.still h6) l1 NX NY
          have b6 := setP_pb (b5.still h6) l2 NX NY
          have c6 := setP_pb (c5.still h6) l3 NX NY
          have d6 := setP_pb (d5.still h6) l4 NX NY
          have v6 := (v5.still h6).set NX NY
          have HS6 := hid (setP_fr (Still.trans HS5.out h6) w2.heap.size NX NY (.inr (by have := NL.out; omega)))
          obtain ⟨q2, q3, qf⟩ := (v5.still h6).cells
          obtain ⟨s2, s3, sf⟩ := (y5.still h6).cells
          clear a5 b5 c5 d5 v5 y5 HS5 h6 i0 i1 i2 o0 o1 hne HC l1 l2 l3 l4
          go_wp2_with fail
          go_roundw
          case rel => exact ⟨j + 1, by omega, by omega, by go_num, fun i h1 h2 => by
              by_cases e : i = j
              · subst e; exact HV.out
              · exact HF.out i h1 (by omega), a6, b6, c6, d6, by
                rw [Nat.add_sub_cancel, HP.out.1, HP.out.2]; exact v6, HS6.out⟩
          case measure => simp [intOf]; omega
      · have HK := hid (show j - 1 = k by
          rw [← HE.out.2.2.2]
          exact (go_one (by omega) (fun i h1 h2 => HF.out i h1 (by omega)) (fun h => by omega)).symm)
        obtain ⟨i0, i1, jf⟩ := v4.cells
        obtain ⟨o0, o1, of⟩ := d4.cells
        go_wp2_with fail
        (try simp only [Exit.inBlock, Exit.then])
        exact bodyPost_ret ((d4.set _ _).rest rfl _ _ rfl rfl) rfl ⟨by rw [HK.out, decide_eq_false (show ¬ k < n by have := HK.out; omega)]; rfl, setP_fr HS4.out _ _ _ (.inr HB.out.2.2)⟩
end Go.Proofs.Ytnoaomocdmkigaa
