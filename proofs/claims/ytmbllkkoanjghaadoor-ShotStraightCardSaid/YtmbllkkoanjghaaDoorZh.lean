/- The law on straight ways. -/
import Derived.Test.YtmbllkkoanjghaaDoorZf
import Derived.Deep.OwnRows
namespace Go.Proofs.YtmbllkkoanjghaaDoor
open Go.RowKit
open Pu Gp Ap Vp Np Za
set_option maxRecDepth 100000

/-- a row of 768 bytes, the first k of them dots -/
def dotA (k : Nat) : Array Value := (List.replicate k (Value.int .u8 46) ++ List.replicate (768 - k) (Value.int .u8 0)).toArray
theorem dot_at (k i : Nat) : (dotA k)[i]? = if i < k then some (.int .u8 46) else if i < k + (768 - k) then some (.int .u8 0) else none := by
  unfold dotA
  simp only [List.getElem?_toArray, List.getElem?_append, List.length_replicate, List.getElem?_replicate]
  by_cases h : i < k
  · simp [h]
  · rw [if_neg h, if_neg h]
    by_cases h2 : i - k < 768 - k
    · rw [if_pos h2, if_pos (by omega)]
    · rw [if_neg h2, if_neg (by omega)]
theorem dot_size (k : Nat) (h : k ≤ 768) : (dotA k).size = 768 := by unfold dotA; simp; omega
theorem dot_set (k : Nat) (hk : k < 768) : (dotA k).setIfInBounds k (.int .u8 46) = dotA (k + 1) := by
  apply Array.ext_getElem?
  intro i
  rw [Array.getElem?_setIfInBounds, dot_at, dot_at, dot_size k (by omega)]
  by_cases e : k = i
  · subst e
    rw [if_pos rfl, if_pos hk, if_pos (by omega)]
  · rw [if_neg e]
    by_cases h : i < k
    · rw [if_pos h, if_pos (by omega)]
    · rw [if_neg h, if_neg (show ¬ i < k + 1 by omega)]
      by_cases h2 : i < 768
      · rw [if_pos (by omega), if_pos (by omega)]
      · rw [if_neg (by omega), if_neg (by omega)]
/-- block g holds that row -/
def Db (w : World) (g k : Nat) : Prop := w.heap[g]? = some (.cells (dotA k) 5 (0, 0))
theorem Db.still {w w' : World} {g k : Nat} (h : Db w g k) (hs : Still w w') : Db w' g k := hs.kept_still h
theorem Db.lay {w : World} {g k : Nat} (h : Db w g k) (hk : k < 768) : Db (w.setCell ⟨g, k, none⟩ (.int .u8 46)) g (k + 1) := by
  unfold Db at h ⊢
  rw [heap_setCell_same _ g k _ _ _ h, dot_set k hk]
theorem Db.cell {w : World} {g k : Nat} (h : Db w g k) (hk : k < 768) : w.cell? ⟨g, k, none⟩ = some (.int .u8 0) ∧ w.frozen? ⟨g, k, none⟩ = false :=
  ⟨by rw [cell_of_row _ _ _ _ _ _ h, dot_at, if_neg (by omega), if_pos (by omega)], frozen_of_row w g k _ _ h⟩
/-- the signs -/
def dotsN (n : Nat) : ByteArray := ⟨(List.replicate n 46).toArray⟩
theorem dotsN_size (n : Nat) : (dotsN n).size = n := by unfold dotsN; simp [ByteArray.size]
theorem dotsN_at (n k : Nat) (h : k < n) : byt (dotsN n) k = 46 := by
  unfold byt dotsN
  simp [h]
def dots : ByteArray := dotsN 768
theorem dots_size : dots.size = 768 := dotsN_size 768
theorem dots_at (k : Nat) (h : k < 768) : byt dots k = 46 := dotsN_at 768 k h
theorem Db.rd {w : World} {g : Nat} (h : Db w g 768) : Rd w (some ⟨g, 0, none⟩) 768 768 (List.replicate 768 46) :=
  ⟨by simp, Nat.le_refl _, by unfold maxLen; omega, fun a ha _ => by cases ha; rfl, fun h => (by cases h), fun a ha j hj => by
    cases ha
    have hj' : j < 768 := by simpa using hj
    rw [Nat.zero_add, cell_of_row _ _ _ _ _ _ h, dot_at, if_pos hj', List.getElem_replicate]
    rfl⟩
theorem made_dot : madeCells #[.int .u8 0] 768 = dotA 0 := by
  apply Array.ext_getElem?
  intro i
  rw [dot_at, if_neg (by omega)]
  by_cases h : i < 768
  · rw [if_pos (by omega)]
    simp [madeCells, h]
    rw [Nat.mod_one]
    rfl
  · rw [if_neg (by omega)]
    simp [madeCells]
    omega
theorem info_u8z : (Tryd.prog.info? 5).map (fun i => (i.zero, i.size, i.bytes)) = some (some (.int .u8 0), 1, 1) := by kernel_rfl
theorem make768 (W : World) : (Instr.makeSlice 43 (.int .i64 768) (.int .i64 768)).run Tryd.prog W = .ok (.slice (some ⟨W.heap.size, 0, none⟩) 768 768) (W.alloc (.cells (dotA 0) 5)) := by
  have := run_make_row' (P := Tryd.prog) 43 5 (.int .u8 0) 1 Tryd.underlying43 info_u8z rfl .i64 .i64 768 (by omega) (by omega) W
  rw [made_dot] at this
  exact this
/-- where a shot is behind some frames -/
def aftS (s : Sh) (k : Nat) : Sh := ⟨s.no, s.ow, s.pw, s.ax + ((k : Int) - 1) * s.sx, s.ay + ((k : Int) - 1) * s.sy, s.sx, s.sy, s.lf - ((k : Int) - 1)⟩
theorem aft_one (s : Sh) : aftS s 1 = s := by
  unfold aftS
  simp
/-- a place lies in the map -/
def inM (x y : Int) : Prop := 0 ≤ x ∧ x < 131072 ∧ 0 ≤ y ∧ y < 98304
theorem stepk {k : Nat} {a : Int} : ((k : Int) - 1) * a + a = (k : Int) * a := by rw [Int.sub_mul, Int.one_mul]; omega
theorem mul_small {k : Nat} {a : Int} (h0 : -1536 ≤ a) (h1 : a ≤ 1536) (hk : k ≤ 40) : -61440 ≤ (k : Int) * a ∧ (k : Int) * a ≤ 61440 := by
  have hm : (k : Int) * a ≤ (k : Int) * 1536 := Int.mul_le_mul_of_nonneg_left h1 (by omega)
  have hl : (k : Int) * (-1536) ≤ (k : Int) * a := Int.mul_le_mul_of_nonneg_left h0 (by omega)
  omega
/-- a frame more -/
theorem aft_next {s : Sh} {k : Nat} (h : MayS s) (h1 : 1 ≤ k) (hk : (k : Int) < s.lf) (hi : inM s.ax s.ay) (hp : k = 1 ∨ inM (s.ax + ((k : Int) - 1) * s.sx) (s.ay + ((k : Int) - 1) * s.sy)) (hw : inM (s.ax + (k : Int) * s.sx) (s.ay + (k : Int) * s.sy)) :
    maySB (aftS s k) = true ∧ goes (solB 32 24 dots) (aftS s k) = true ∧ flyS (solB 32 24 dots) (aftS s k) = ⟨s.no, s.ow, s.pw, s.ax + (k : Int) * s.sx, s.ay + (k : Int) * s.sy, s.sx, s.sy, s.lf - (k : Int)⟩ := by
  have hp' : inM (s.ax + ((k : Int) - 1) * s.sx) (s.ay + ((k : Int) - 1) * s.sy) := by
    rcases hp with rfl | h
    · simpa using hi
    · exact h
  obtain ⟨h2, h3, h4, h5, h6, h7⟩ := h
  have ex := stepk (k := k) (a := s.sx)
  have ey := stepk (k := k) (a := s.sy)
  have hm : MayS (aftS s k) := by
    unfold aftS inM at *
    refine ⟨h2, h3, h4, ?_, h6, ?_⟩
    · dsimp only
      omega
    · dsimp only
      omega
  have hg := straight (sol := solB 32 24 dots) (s := aftS s k) hm (by unfold aftS; dsimp only; omega) hp'.1 hp'.2.1 hp'.2.2.1 hp'.2.2.2
    (by unfold aftS inM at *; dsimp only; omega) (by unfold aftS inM at *; dsimp only; omega) (by unfold aftS inM at *; dsimp only; omega) (by unfold aftS inM at *; dsimp only; omega)
    (fun i j a b c d => map_free dots_size dots_at i j a b c d)
  refine ⟨maySB_iff.2 hm, hg.1, ?_⟩
  unfold flyS
  rw [hg.1, hg.2]
  unfold aftS
  simp only [if_true]
  rw [show s.ax + ((k : Int) - 1) * s.sx + s.sx = s.ax + (k : Int) * s.sx by omega, show s.ay + ((k : Int) - 1) * s.sy + s.sy = s.ay + (k : Int) * s.sy by omega, show s.lf - ((k : Int) - 1) - 1 = s.lf - (k : Int) by omega]
set_option maxHeartbeats 8000000 in
theorem straight_law (s : Sh) (fr : Int) (w : World) (C9 : Cts9 w) : Calls Tryd.prog 7 #[sv s, .int .i64 fr] w fun e w' => e = .returned (.bool true) ∧ Still w w' := by
  have G1 := guard_pt
  have p0 := newS_sb w s
  have HS0 := hid (Still.alloc w (.cells (scs s) 25))
  have hmk := make768
  go_enter Tryd.func7, Tryd.ntmps7
  go_wp2_with fail
  refine (awake9_any _ (C9.still HS0.out)).mono ?_
  rintro e w1 ⟨rfl, h1⟩
  have A1 := Still.alloc w1 (.cells (dotA 0) 5)
  have p1 := (p0.still h1).still A1
  have d1 : Db (w1.alloc (.cells (dotA 0) 5)) w1.heap.size 0 := heap_alloc_new w1 _
  have HS1 := hid ((HS0.out.trans h1).trans A1)
  have HB : Hid (w.heap.size < w1.heap.size) := hid ((p0.still h1).lt)
  clear h1 A1 HS0 p0
  go_wp2_with fail
  obtain ⟨B, eB⟩ : ∃ B, w1.heap.size = B := ⟨_, rfl⟩
  rw [eB] at d1 HB ⊢
  clear eB
  go_loopw [7] (fun i wr => ∃ k : Nat, k ≤ 768 ∧ i = .int .i64 (k : Int) ∧ Db wr B k ∧ Sb wr w.heap.size s ∧ Still w wr) (fun i _ => 768 - (intOf i).toNat)
  case atStart => exact ⟨0, by omega, rfl, d1, p1, HS1.out⟩
  case round =>
    obtain ⟨k, hk, rfl, d2, p2, hs⟩ := hrel
    have HS2 := hid hs
    clear hs d1 p1 HS1 hmk
    by_cases hlt : k < 768
    · obtain ⟨e0, ef⟩ := d2.cell hlt
      have hki : (k : Int) < 768 := by omega
      have HR := hid (And.intro (d2.lay hlt) (And.intro (p2.other B k (.int .u8 46) (by have := HB.out; omega)) (HS2.out.setCell ⟨B, k, none⟩ (.int .u8 46) (.inr (show w.heap.size ≤ B by have := HB.out; omega)))))
      go_wp2_with fail
      go_roundw
      case measure => simp [intOf]; omega
      case rel => exact ⟨k + 1, by omega, by simp, HR.out.1, HR.out.2.1, HR.out.2.2⟩
    · obtain rfl : k = 768 := by omega
      have hcv : (convert 43 9 (.slice (some ⟨B, 0, none⟩) 768 768)).run Tryd.prog wr = .ok (.string dots) wr := run_string wr _ _ _ Tryd.underlying43 Tryd.underlying5 Tryd.underlying9 d2.rd
      have A3 := Still.alloc wr (.cells #[.int .i64 32, .int .i64 24, .string dots] 37)
      have p3 := p2.still A3
      have a3 := newA_ab wr 32 24 dots
      have HS3 := hid (HS2.out.trans A3)
      have HK := hid (C9.chk s _ HS3.out)
      clear A3 d2 HS2
      obtain ⟨c0, c1, c2, c3, c4, c5, c6, c7, cf⟩ := p2.cells
      obtain ⟨m0, m1, m2, m3, m4, m5, m6, m7, mf⟩ := p3.cells
      cases hm : maySB s with
      | false =>
        rw [show chkS s = 90 by unfold chkS; rw [hm]; rfl] at HK
        clear hm
        go_wp2_with fail
        refine HK.out.mono ?_
        rintro e w4 ⟨rfl, h4⟩
        have HS4 := hid (HS3.out.trans h4)
        clear h4
        go_wp2_with fail
        go_ret
        exact ⟨rfl, HS4.out⟩
      | true =>
        rw [show chkS s = 0 by unfold chkS; rw [hm]; rfl] at HK
        have HM := hid (maySB_iff.1 hm)
        clear hm
        go_wp2_with fail
        refine HK.out.mono ?_
        rintro e w4 ⟨rfl, h4⟩
        have A4 := Still.alloc w4 (.cells (scs s) 25)
        have p4 := (p3.still h4).still A4
        have a4 := (a3.still h4).still A4
        have q4 := newS_sb w4 s
        have HS4 := hid ((HS3.out.trans h4).trans A4)
        have HG : Hid (w.heap.size < w4.heap.size ∧ wr.heap.size < w4.heap.size) := hid ⟨(p3.still h4).lt, block_lt (a3.still h4)⟩
        obtain ⟨v0, v1, v2, v3, v4, v5, v6, v7, vf⟩ := (p3.still h4).cells
        clear h4 A4 p2 p3 a3 HS3 HK c0 c1 c2 c3 c4 c5 c6 c7 cf m0 m1 m2 m3 m4 m5 m6 m7 mf hcv
        obtain ⟨W, eW⟩ : ∃ W, w4.alloc (.cells (scs s) 25) = W := ⟨_, rfl⟩
        have q4' : Sb W w4.heap.size s := by rw [← eW]; exact q4
        rw [eW] at p4 a4 HS4
        simp only [scs] at eW
        go_wp2_with fail
        clear eW q4 v0 v1 v2 v3 v4 v5 v6 v7 vf
        obtain ⟨g, eg⟩ : ∃ g, w4.heap.size = g := ⟨_, rfl⟩
        rw [eg] at q4' HG ⊢
        clear eg
        obtain ⟨ga, ega⟩ : ∃ ga, wr.heap.size = ga := ⟨_, rfl⟩
        rw [ega] at a4 HG ⊢
        clear ega
        rw [← aft_one s] at q4'
        go_loopw [10] (fun i wr => ∃ k : Nat, 1 ≤ k ∧ (k : Int) ≤ s.lf ∧ i = .int .i64 (k : Int) ∧ Hid (k = 1 ∨ (inM s.ax s.ay ∧ inM (aftS s k).ax (aftS s k).ay)) ∧ Sb wr g (aftS s k) ∧ Fr (fun b => b = g) W wr) (fun i _ => 41 - (intOf i).toNat)
        case atStart => exact ⟨1, by omega, by have := HM.out.2.2.2.2.2; omega, rfl, hid (.inl rfl), q4', Fr.refl _ _⟩
        case round =>
          obtain ⟨k, k1, k2, rfl, HI, q5, hf⟩ := hrel
          have p5 : Sb wr w.heap.size s := hf.kept p4 (by have := HG.out; omega)
          have a5 : Ab wr ga 32 24 dots := hf.kept a4 (by have := HG.out; omega)
          have HS5 : Hid (Still w wr) := hid (Fr.trans HS4.out hf (fun j h1 h2 => by have := HG.out; omega))
          have HF5 := hid hf
          clear hf p4 a4 q4' HS4
          have hl := HM.out.2.2.2.2.2
          have hs := HM.out.2.2.2.2.1
          have ha := HM.out.2.2.2.1
          obtain ⟨m0, m1, m2, m3, m4, m5, m6, m7, mf⟩ := p5.cells
          by_cases h1 : (k : Int) < s.lf
          · by_cases h2 : (k : Int) ≤ fr
            · have mv := mul_small (k := k) hs.1 hs.2.1 (by omega)
              have mu := mul_small (k := k) hs.2.2.1 hs.2.2.2 (by omega)
              have HN0 := hid (fun hi hw => aft_next (s := s) (k := k) HM.out k1 h1 hi (by
                rcases HI.out with h | h
                · exact .inl h
                · exact .inr h.2) hw)
              have HA0 : Hid (aftS s (k + 1) = ⟨s.no, s.ow, s.pw, s.ax + (k : Int) * s.sx, s.ay + (k : Int) * s.sy, s.sx, s.sy, s.lf - (k : Int)⟩) := hid (by unfold aftS; rw [show (((k + 1 : Nat) : Int) - 1) = (k : Int) by omega])
              obtain ⟨V, eV⟩ : ∃ V, (k : Int) * s.sx = V := ⟨_, rfl⟩
              obtain ⟨U, eU⟩ : ∃ U, (k : Int) * s.sy = U := ⟨_, rfl⟩
              rw [eV] at mv HN0 HA0
              rw [eU] at mu HN0 HA0
              obtain ⟨X, eX⟩ : ∃ X, s.ax + V = X := ⟨_, rfl⟩
              obtain ⟨Y, eY⟩ : ∃ Y, s.ay + U = Y := ⟨_, rfl⟩
              have HN : Hid (inM s.ax s.ay → inM X Y → maySB (aftS s k) = true ∧ goes (solB 32 24 dots) (aftS s k) = true ∧ flyS (solB 32 24 dots) (aftS s k) = ⟨s.no, s.ow, s.pw, X, Y, s.sx, s.sy, s.lf - (k : Int)⟩) := hid (by rw [← eX, ← eY]; exact HN0.out)
              have HA : Hid (aftS s (k + 1) = ⟨s.no, s.ow, s.pw, X, Y, s.sx, s.sy, s.lf - (k : Int)⟩) := hid (by rw [← eX, ← eY]; exact HA0.out)
              have NP := neq_pt_f (x := X) (y := Y) (z := X) (u := Y) ⟨rfl, rfl⟩
              clear HN0 HA0 HI
              have A5 := Still.alloc wr (.cells #[.int .i64 X, .int .i64 Y] 23)
              have q5 := q5.still A5
              have p5' := p5.still A5
              have a5 := a5.still A5
              have z5 : Pb (wr.alloc (.cells #[.int .i64 X, .int .i64 Y] 23)) wr.heap.size X Y := newP_pb wr X Y
              have HS5 := hid (HS5.out.trans A5)
              have HF5 := hid (Fr.trans HF5.out A5 (fun _ _ e => e.elim))
              clear A5
              obtain ⟨W5, eW5⟩ : ∃ W5, wr.alloc (.cells #[.int .i64 X, .int .i64 Y] 23) = W5 := ⟨_, rfl⟩
              rw [eW5] at q5 p5' a5 z5 HS5 HF5
              go_upto_region 15 with fail
              clear eW5 p5 m0 m1 m2 m3 m4 m5 m6 m7 mf eV eU eX eY mv mu
              have p5 := p5'
              clear p5'
              obtain ⟨m0, m1, m2, m3, m4, m5, m6, m7, mf⟩ := p5.cells
              obtain ⟨b0, b1, bf⟩ := z5.cells
              by_cases g0 : X < 0
              · go_wp2_with fail
                go_ret
                exact ⟨rfl, HS5.out⟩
              · skip
                by_cases g1 : Y < 0
                · go_wp2_with fail
                  go_ret
                  exact ⟨rfl, HS5.out⟩
                · skip
                  by_cases g2 : X ≥ 131072
                  · go_wp2_with fail
                    go_ret
                    exact ⟨rfl, HS5.out⟩
                  · skip
                    by_cases g3 : Y ≥ 98304
                    · go_wp2_with fail
                      go_ret
                      exact ⟨rfl, HS5.out⟩
                    · skip
                      by_cases g4 : s.ax < 0
                      · go_wp2_with fail
                        go_ret
                        exact ⟨rfl, HS5.out⟩
                      · skip
                        by_cases g5 : s.ay < 0
                        · go_wp2_with fail
                          go_ret
                          exact ⟨rfl, HS5.out⟩
                        · skip
                          by_cases g6 : s.ax ≥ 131072
                          · go_wp2_with fail
                            go_ret
                            exact ⟨rfl, HS5.out⟩
                          · skip
                            by_cases g7 : s.ay ≥ 98304
                            · go_wp2_with fail
                              go_ret
                              exact ⟨rfl, HS5.out⟩
                            · have g7' : decide (98304 ≤ s.ay) = false := by simp; omega
                              have hin : inM s.ax s.ay := ⟨by omega, by omega, by omega, by omega⟩
                              have hwt : inM X Y := ⟨by omega, by omega, by omega, by omega⟩
                              obtain ⟨y1, y2, y3⟩ := HN.out hin hwt
                              have HFl := hid (C9.fly (aftS s k) 32 24 dots _ (by rw [dots_size]; omega) (by omega) HS5.out)
                              rw [y2, y3, show chkS (aftS s k) = 0 by unfold chkS; rw [y1]; rfl] at HFl
                              have HX2 : Hid (inM s.ax s.ay ∧ inM X Y) := hid ⟨hin, hwt⟩
                              clear y1 y2 y3 hin hwt
                              obtain ⟨Z, eZ⟩ : ∃ Z, aftS s k = Z := ⟨_, rfl⟩
                              rw [eZ] at HFl q5
                              clear eZ
                              obtain ⟨c0, c1, c2, c3, c4, c5, c6, c7, cf⟩ := q5.cells
                              obtain ⟨d0, d1, d2, df⟩ := a5.cells
                              go_wp2_with fail
                              refine HFl.out.mono ?_
                              rintro e w6 ⟨rfl, h6⟩
                              have A6 := Still.alloc w6 (.cells (scs ⟨s.no, s.ow, s.pw, X, Y, s.sx, s.sy, s.lf - (k : Int)⟩) 25)
                              have q7 := (q5.still h6).still A6
                              have p7 := (p5.still h6).still A6
                              have z7 := (z5.still h6).still A6
                              have t7 := newS_sb w6 ⟨s.no, s.ow, s.pw, X, Y, s.sx, s.sy, s.lf - (k : Int)⟩
                              have HF7 := hid (Fr.trans HF5.out (h6.trans A6) (fun _ _ e => e.elim))
                              clear h6 A6 q5 p5 z5 a5 HS5 HF5 HFl c0 c1 c2 c3 c4 c5 c6 c7 cf d0 d1 d2 df m0 m1 m2 m3 m4 m5 m6 m7 mf b0 b1 bf
                              obtain ⟨c0, c1, c2, c3, c4, c5, c6, c7, cf⟩ := q7.cells
                              obtain ⟨m0, m1, m2, m3, m4, m5, m6, m7, mf⟩ := p7.cells
                              obtain ⟨t0, t1, t2, t3, t4, t5, t6, t7, tf⟩ := t7.cells
                              obtain ⟨b0, b1, bf⟩ := z7.cells
                              go_wp2_with fail
                              refine ⟨⟨k + 1, by omega, by omega, by simp, hid (.inr (by rw [HA.out]; exact HX2.out)), by rw [HA.out]; exact Sb.put q7 _ _ _ _ _ _ _ _, ?_⟩, by simp [intOf]; omega⟩
                              repeat (first | refine Fr.setCell ?_ _ _ (.inl rfl) | with_reducible exact HF7.out)
            · have h2' : decide ((k : Int) ≤ fr) = false := by simpa using h2
              go_wp2_with fail
              go_ret
              exact ⟨rfl, HS5.out⟩
          · go_wp2_with fail
            go_ret
            exact ⟨rfl, HS5.out⟩
end Go.Proofs.YtmbllkkoanjghaaDoor
