/- The law on how a shot lives. -/
import Derived.Test.YtmbllkkoanjghaaDoorZf
import Derived.Test.YtmbllkkoanjghaaDoorK6c
namespace Go.Proofs.YtmbllkkoanjghaaDoor
open Go.RowKit
open Pu Gp Ap Vp Np Za
set_option maxRecDepth 100000

theorem lsolid_any (C R : Int) (b : ByteArray) (x y : Int) (hz : b.size ≤ 281474976710656) (w : World) : Calls Tryd.prog 17 #[ar C R b, pt x y] w fun e w' => e = .returned (.bool (touB C R b x y x y)) ∧ Still w w' := by
  have A0 := Still.alloc w (.cells #[.int .i64 C, .int .i64 R, .string b] 37)
  have A1 := Still.alloc (newA w C R b) (.cells #[.int .i64 x, .int .i64 y] 23)
  have o0 := (newA_ab w C R b).still A1
  have p0 := newP_pb (newA w C R b) x y
  simp only [size_alloc] at p0
  have HS0 := hid (A0.trans A1)
  clear A0 A1
  obtain ⟨d0, d1, d2, df⟩ := o0.cells
  obtain ⟨c0, c1, cf⟩ := p0.cells
  go_enter Tryd.func17, Tryd.ntmps17
  go_wp2_with fail
  refine (touches_any C R x y x y b hz _).mono ?_
  rintro e w1 ⟨rfl, h1⟩
  have HS1 := hid (HS0.out.trans h1)
  clear h1 HS0
  go_wp2_with fail
  go_ret
  exact ⟨rfl, HS1.out⟩
/-- a number of the loop: what is left -/
def lv (f o : Value) : Nat := 2 * (40 - (intOf f).toNat) + (match o with | .bool true => 1 | _ => 0)
set_option maxHeartbeats 8000000 in
theorem lives_law (m : Mv) (ow pw no C R : Int) (b : ByteArray) (hz : b.size ≤ 281474976710656) (hC : C ≤ 9223372036854775807) (w : World) (C9 : Cts9 w) :
    Calls Tryd.prog 6 #[mv m, .int .i64 ow, .int .i64 pw, .int .i64 no, ar C R b] w fun e w' => e = .returned (.bool true) ∧ Still w w' := by
  have G1 := guard_sv
  have G2 := guard_pt
  have A0 := Still.alloc w (.cells (mcs m) 32)
  have A1 := Still.alloc (newM w m) (.cells #[.int .i64 C, .int .i64 R, .string b] 37)
  have p0 := (newM_mb w m).still A1
  have o0 := newA_ab (newM w m) C R b
  simp only [size_alloc] at o0
  have HS0 := hid (A0.trans A1)
  clear A0 A1
  have HC := hid (fun u (hu : Still w u) => C9.fir m ow pw no u hu)
  have HM : Hid (errF m ow pw no = 0 → MayS (firS m ow pw no) ∧ (firS m ow pw no).lf = 40) := hid (fun h => by
    have ha : argB ow pw no = true := by
      unfold errF at h
      cases k : argB ow pw no with
      | true => rfl
      | false => rw [k] at h; split at h <;> simp at h
    unfold firS
    rw [if_pos h]
    exact ⟨may_fired ha, rfl⟩)
  have HZ : Hid (errF m ow pw no ≠ 0 → firS m ow pw no = zS) := hid (fun h => by unfold firS; rw [if_neg h])
  obtain ⟨n, en⟩ : ∃ n, firS m ow pw no = n := ⟨_, rfl⟩
  obtain ⟨E, eE⟩ : ∃ q, errF m ow pw no = q := ⟨_, rfl⟩
  rw [en, eE] at HC HM HZ
  clear en eE
  go_enter Tryd.func6, Tryd.ntmps6
  go_wp2_with fail
  refine (awake9_any _ (C9.still HS0.out)).mono ?_
  rintro e w1 ⟨rfl, h1⟩
  have p1 := p0.still h1
  have o1 := o0.still h1
  have HS1 := hid (HS0.out.trans h1)
  clear h1 HS0 p0 o0
  obtain ⟨c0, c1, c2, c3, c4, c5, c6, c7, c8, c9, c10, c11, c12, cf⟩ := p1.cells
  go_wp2_with fail
  refine (HC.out _ HS1.out).mono ?_
  rintro e w2 ⟨rfl, h2⟩
  have A2 := Still.alloc w2 (.cells (scs n) 25)
  have o2 := (o1.still h2).still A2
  have q2 := newS_sb w2 n
  have HS2 := hid ((HS1.out.trans h2).trans A2)
  have HL : Hid (w.heap.size + 1 < w2.heap.size) := hid (block_lt (o1.still h2))
  clear h2 A2 HS1 p1 o1 HC c0 c1 c2 c3 c4 c5 c6 c7 c8 c9 c10 c11 c12 cf
  obtain ⟨c0, c1, c2, c3, c4, c5, c6, c7, cf⟩ := q2.cells
  by_cases hE : E = 0
  · obtain ⟨hM, hF⟩ := HM.out hE
    have HMn := hid hM
    have HFn := hid hF
    subst hE
    obtain ⟨g, eg⟩ : ∃ g, w2.heap.size = g := ⟨_, rfl⟩
    obtain ⟨W, eW⟩ : ∃ W, w2.alloc (.cells (scs n) 25) = W := ⟨_, rfl⟩
    have q3 : Sb W g n := by rw [← eW, ← eg]; exact q2
    rw [eW] at o2 HS2
    rw [eg] at HL
    have HG : Hid (w.heap.size + 1 < g) := HL
    simp only [scs] at eW
    clear q2 HM HZ hM hF c0 c1 c2 c3 c4 c5 c6 c7 cf
    go_wp2_with fail
    (try rw [eg])
    clear eW eg HL
    go_loopw [14, 15] (fun f o wr => ∃ (k : Nat) (x : Sh) (d : Bool), f = .int .i64 (k : Int) ∧ o = .bool d ∧ k ≤ 39 ∧ Hid (MayS x ∧ x.lf = 40 - (k : Int)) ∧ Sb wr g x ∧ Fr (fun b => b = g) W wr) (fun f o _ => lv f o)
    case atStart => exact ⟨0, n, true, rfl, rfl, by omega, hid ⟨HMn.out, by rw [HFn.out]; rfl⟩, q3, Fr.refl _ _⟩
    case round =>
      obtain ⟨k, x, d, rfl, rfl, hk, HX, q4, hf⟩ := hrel
      have o4 : Ab wr (w.heap.size + 1) C R b := hf.kept o2 (by have := HG.out; omega)
      have HS4 : Hid (Still w wr) := hid (Fr.trans HS2.out hf (fun j h1 h2 => by have := HG.out; omega))
      have HF4 := hid hf
      clear hf o2 q3 HS2 HMn HFn
      cases d with
      | false =>
        go_wp2_with fail
        go_ret
        exact ⟨rfl, HS4.out⟩
      | true =>
        have hB := maySB_iff.2 HX.out.1
        have HCk := hid (C9.chk x _ HS4.out)
        rw [show chkS x = 0 by unfold chkS; rw [hB]; rfl] at HCk
        have HFl := hid (fun u (hu : Still w u) => C9.fly x C R b u hz hC hu)
        rw [show chkS x = 0 by unfold chkS; rw [hB]; rfl] at HFl
        clear hB
        obtain ⟨c0, c1, c2, c3, c4, c5, c6, c7, cf⟩ := q4.cells
        go_wp2_with fail
        refine HCk.out.mono ?_
        rintro e w5 ⟨rfl, h5⟩
        have q5 := q4.still h5
        have o5 := o4.still h5
        have HS5 := hid (HS4.out.trans h5)
        have HF5 := hid (Fr.trans HF4.out h5 (fun _ _ e => e.elim))
        clear h5 q4 o4 HS4 HF4 HCk c0 c1 c2 c3 c4 c5 c6 c7 cf
        obtain ⟨c0, c1, c2, c3, c4, c5, c6, c7, cf⟩ := q5.cells
        obtain ⟨d0, d1, d2, df⟩ := o5.cells
        cases hG : goes (solB C R b) x with
        | false =>
          rw [show flyS (solB C R b) x = zS by unfold flyS; rw [hG]; rfl, hG] at HFl
          clear hG
          go_wp2_with fail
          refine (HFl.out _ HS5.out).mono ?_
          rintro e w6 ⟨rfl, h6⟩
          have A6 := Still.alloc w6 (.cells (scs zS) 25)
          have q7 := (q5.still h6).still A6
          have HF7 := hid (Fr.trans HF5.out (h6.trans A6) (fun _ _ e => e.elim))
          clear h6 A6 q5 o5 HS5 HF5 HFl c0 c1 c2 c3 c4 c5 c6 c7 cf d0 d1 d2 df
          go_wp2_with fail
          refine ⟨⟨k, x, false, rfl, rfl, hk, HX, q7, HF7.out⟩, by simp [lv]⟩
        | true =>
          have HM7 := hid (may_flown hG)
          have HFr := hid (fun h => free_flown hG h)
          have hlf := (goes_may hG).2.2
          rw [show flyS (solB C R b) x = flown (solB C R b) x by unfold flyS; rw [hG]; rfl, hG] at HFl
          unfold flown at HFl HM7 HFr
          obtain ⟨X, eX⟩ : ∃ X, rp (bnd x.ax) (stp x.sx) (rn x) (rk (solB C R b) x) = X := ⟨_, rfl⟩
          obtain ⟨Y, eY⟩ : ∃ Y, rp (bnd x.ay) (stp x.sy) (rn x) (rk (solB C R b) x) = Y := ⟨_, rfl⟩
          rw [eX, eY] at HFl HM7 HFr
          have H1 := hid (fun u => lsolid_any C R b x.ax x.ay hz u)
          have H2 := hid (fun u => lsolid_any C R b X Y hz u)
          have HR : Hid (touB C R b x.ax x.ay x.ax x.ay = false → touB C R b X Y X Y = false) := hid (fun h => by
            obtain ⟨_, _, _, h4, _⟩ := HX.out.1
            obtain ⟨_, _, _, j4, _⟩ := HM7.out
            rw [tou_pt ⟨h4.1, h4.2.1⟩ ⟨h4.2.2.1, h4.2.2.2⟩] at h
            rw [tou_pt ⟨j4.1, j4.2.1⟩ ⟨j4.2.2.1, j4.2.2.2⟩]
            exact HFr.out h)
          obtain ⟨S1, e1⟩ : ∃ S, touB C R b x.ax x.ay x.ax x.ay = S := ⟨_, rfl⟩
          obtain ⟨S2, e2⟩ : ∃ S, touB C R b X Y X Y = S := ⟨_, rfl⟩
          rw [e1] at H1 HR
          rw [e2] at H2 HR
          have hk8 : k ≤ 38 := by have := HX.out.2; have := HX.out.1.2.2.2.2.2; omega
          have HX7 : Hid (MayS { x with ax := X, ay := Y, lf := x.lf - 1 } ∧ x.lf - 1 = 40 - ((k + 1 : Nat) : Int)) := hid ⟨HM7.out, by have := HX.out.2; omega⟩
          have hl1 := HX.out.1.2.2.2.2.2.1
          have hl2 := HX.out.1.2.2.2.2.2.2
          have NP := neq_pt_f (x := x.sx) (y := x.sy) (z := x.sx) (u := x.sy) ⟨rfl, rfl⟩
          clear hG eX eY e1 e2 HFr HM7 hlf HX
          go_wp2_with fail
          refine (HFl.out _ HS5.out).mono ?_
          rintro e w6 ⟨rfl, h6⟩
          have A6 := Still.alloc w6 (.cells (scs { x with ax := X, ay := Y, lf := x.lf - 1 }) 25)
          have q7 := (q5.still h6).still A6
          have o7 := (o5.still h6).still A6
          have t7 := newS_sb w6 { x with ax := X, ay := Y, lf := x.lf - 1 }
          have hgt : g ≠ w6.heap.size := by have := (q5.still h6).lt; omega
          have HS7 := hid ((HS5.out.trans h6).trans A6)
          have HF7 := hid (Fr.trans HF5.out (h6.trans A6) (fun _ _ e => e.elim))
          clear h6 A6 q5 o5 HS5 HF5 HFl c0 c1 c2 c3 c4 c5 c6 c7 cf d0 d1 d2 df
          obtain ⟨c0, c1, c2, c3, c4, c5, c6, c7, cf⟩ := q7.cells
          obtain ⟨d0, d1, d2, df⟩ := o7.cells
          obtain ⟨k0, k1, k2, k3, k4, k5, k6, k7, kf⟩ := t7.cells
          go_wp2_with fail
          refine (H1.out _).mono ?_
          rintro e w8 ⟨rfl, h8⟩
          have q8 := q7.still h8
          have o8 := o7.still h8
          have t8 := t7.still h8
          have HS8 := hid (HS7.out.trans h8)
          have HF8 := hid (Fr.trans HF7.out h8 (fun _ _ e => e.elim))
          clear h8 q7 o7 t7 HS7 HF7 H1 c0 c1 c2 c3 c4 c5 c6 c7 cf k0 k1 k2 k3 k4 k5 k6 k7 kf d0 d1 d2 df
          obtain ⟨c0, c1, c2, c3, c4, c5, c6, c7, cf⟩ := q8.cells
          obtain ⟨d0, d1, d2, df⟩ := o8.cells
          obtain ⟨k0, k1, k2, k3, k4, k5, k6, k7, kf⟩ := t8.cells
          go_wp2_with fail
          refine (H2.out _).mono ?_
          rintro e w9 ⟨rfl, h9⟩
          have q9 := q8.still h9
          have t9 := t8.still h9
          have HF9 := hid (Fr.trans HF8.out h9 (fun _ _ e => e.elim))
          clear h9 q8 o8 t8 HS8 HF8 H2 c0 c1 c2 c3 c4 c5 c6 c7 cf k0 k1 k2 k3 k4 k5 k6 k7 kf d0 d1 d2 df
          obtain ⟨c0, c1, c2, c3, c4, c5, c6, c7, cf⟩ := q9.cells
          obtain ⟨k0, k1, k2, k3, k4, k5, k6, k7, kf⟩ := t9.cells
          have hk39 : ¬ (k : Int) + 1 > 39 := by omega
          have hkd : decide (39 < (k : Int) + 1) = false := by simp; omega
          cases S1 with
          | true =>
            go_wp2_with fail
            refine ⟨⟨k + 1, { x with ax := X, ay := Y, lf := x.lf - 1 }, true, by simp, rfl, by omega, HX7, Sb.put q9 _ _ _ _ _ _ _ _, ?_⟩, by simp [lv, intOf]; omega⟩
            repeat (first | refine Fr.setCell ?_ _ _ (.inl rfl) | with_reducible exact HF9.out)
          | false =>
            have hs := HR.out rfl
            subst hs
            go_wp2_with fail
            refine ⟨⟨k + 1, { x with ax := X, ay := Y, lf := x.lf - 1 }, true, by simp, rfl, by omega, HX7, Sb.put q9 _ _ _ _ _ _ _ _, ?_⟩, by simp [lv, intOf]; omega⟩
            repeat (first | refine Fr.setCell ?_ _ _ (.inl rfl) | with_reducible exact HF9.out)
  · have hE1 : (E != 0) = true := by simpa using hE
    obtain rfl := HZ.out hE
    have E1 := eql_sv_t zS
    go_wp2_with fail
    go_ret
    exact ⟨rfl, HS2.out⟩
end Go.Proofs.YtmbllkkoanjghaaDoor
