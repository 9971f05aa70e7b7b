/- The document's Double, Same; the law's lent, spoil. -/
import Derived.Test.YtakdfckkljbghaaBgj
namespace Go.Proofs.Ytakdfckkljbghaa
open Go.RowKit
set_option maxRecDepth 100000
set_option linter.unusedVariables false

theorem rdouble_no (B yb : Nat) (v : Value) (la : Int) (S : List Pcl) (k : Int) (w : World) (hb : Ydb w B yb v la S) (hS : S.length ≤ 281474976710656) (hk : ∀ j, j < S.length → (atP S j).no ≠ k) : Calls Try.prog 21 #[.pointer (some ⟨yb, 0, none⟩), .int .i64 k] w fun e w' => e = .returned (.tuple #[.int .i64 0, .int .i64 170]) ∧ Still w w' := by
  have HC := hid (rat_no B yb v la S k w hb hS hk)
  clear hb hk
  go_enter Try.func21, Try.ntmps21
  go_wp2_with fail
  refine HC.out.mono ?_
  rintro e w2 ⟨he, hw⟩
  rw [he, hw]
  clear he hw w2 HC
  go_wp2_with fail
  go_ret2
  exact ⟨rfl, Fr.refl _ _⟩
set_option maxHeartbeats 2000000 in
theorem rdouble_yes (B yb : Nat) (v : Value) (la : Int) (S : List Pcl) (k : Int) (i : Nat) (h0 : 0 ≤ la) (hla : la < 4611686018427387904) (w : World) (hb : Ydb w B yb v la S) (hS : (S.length + 1) * 48 ≤ 140737488355328) (hi : i < S.length) (hk : (atP S i).no = k) (hf : ∀ j, j < i → (atP S j).no ≠ k) : Calls Try.prog 21 #[.pointer (some ⟨yb, 0, none⟩), .int .i64 k] w fun e w' => e = .returned (.tuple #[.int .i64 (la + 1), .int .i64 0]) ∧ ∃ y v', abP y = (la + 1, (atP S i).fr, (atP S i).td, (atP S i).bs) ∧ (∀ a, y.ao = some a → w.heap.size ≤ a.block) ∧ Ydb w' B yb v' (la + 1) (S ++ [y]) ∧ Fr (fun k => k = yb ∨ v.ownBlock = some k) w w' ∧ ∀ k, v'.ownBlock = some k → v.ownBlock = some k ∨ w.heap.size ≤ k := by
  obtain ⟨gv, cap, ev, _, _⟩ := hb.ow.head (by omega)
  subst ev
  have HC := hid (rat_yes B yb _ la S k i w hb (by omega) hi hk hf)
  obtain ⟨c0, c1, cf⟩ := hb.cell
  obtain ⟨s0, s1, s2, s3, _⟩ := owPl hb.ow hi
  obtain ⟨x, ex⟩ : ∃ x, atP S i = x := ⟨_, rfl⟩
  have hx := hb.rd _ (atP_mem hi)
  rw [ex] at s0 s1 s2 s3 hx
  rw [ex]
  obtain ⟨g, eg⟩ : ∃ g, w.heap.size = g := ⟨_, rfl⟩
  obtain ⟨W1, eW1⟩ : ∃ W, newPl w zPl = W := ⟨_, rfl⟩
  have A1 : Still w W1 := by rw [← eW1]; exact Still.alloc _ _
  have p1 : Plb W1 g zPl := by rw [← eW1, ← eg]; exact newPl_b w zPl
  have p2 := p1.put x
  obtain ⟨W2, eW2⟩ : ∃ W, setPl W1 g x = W := ⟨_, rfl⟩
  rw [eW2] at p2
  have f2 : Still w W2 := by rw [← eW2]; exact setPl_fr A1 _ _ (.inr (by omega))
  have hb2 := hb.still f2
  have hx2 := hx.still f2
  have HD := hid (rsend_any B yb _ la S x.fr x.td x.ao x.n x.cap x.bs h0 hla hx.le hS W2 hb2 hx2.ow.rd (fun a ha _ e => by
    obtain ⟨_, _, cur, hg, _⟩ := hx2.ow.row a ha
    exact ty_ne hg hb2.bk (by decide) e))
  have HS2 : Hid (Still w W2) := hid f2
  have hlt : (i : Int) < (S.length : Int) := by omega
  obtain ⟨x0, x1, x2, x3, xf⟩ := p1.cells
  obtain ⟨y0, y1, y2, y3, yf⟩ := p2.cells
  simp only [newPl, setPl, zPl] at eW1 eW2
  simp only [zPl] at x0 x1 x2 x3
  clear A1 hb hb2 hx hx2 p1 p2 f2 hk hf ex hS
  go_enter Try.func21, Try.ntmps21
  go_wp2_with fail
  refine HC.out.mono ?_
  rintro e w2 ⟨he, hw⟩
  rw [he, hw]
  clear he hw w2 HC
  go_upto_region 5 with fail
  clear eW1 eW2 eg c0 c1 cf s0 s1 s2 s3 x0 x1 x2 x3 xf
  go_wp2_with fail
  refine HD.out.mono ?_
  rintro e w3 ⟨he, y, v', hy, hnw, hb3, hf3, hv3⟩
  rw [he]
  have HR : Hid (abP y = (la + 1, x.fr, x.td, x.bs) ∧ (∀ a, y.ao = some a → w.heap.size ≤ a.block) ∧ Ydb w3 B yb v' (la + 1) (S ++ [y]) ∧ Fr (fun k => k = yb ∨ (Value.slice (some ⟨gv, 0, none⟩) S.length cap).ownBlock = some k) w w3 ∧ ∀ k, v'.ownBlock = some k → (Value.slice (some ⟨gv, 0, none⟩) S.length cap).ownBlock = some k ∨ w.heap.size ≤ k) := hid ⟨hy, fun a ha => Nat.le_trans HS2.out.size (hnw a ha), hb3, Fr.trans (Still.to HS2.out) hf3 (fun _ _ e => e), fun k hk => (hv3 k hk).imp id (fun h => Nat.le_trans HS2.out.size h)⟩
  clear he hy hnw hb3 hf3 hv3 HD
  go_wp2_with fail
  go_ret2
  exact ⟨rfl, y, v', HR.out⟩
set_option maxHeartbeats 1000000 in
theorem rsame_t (x y : Pcl) (h : abP x = abP y) (w : World) (hx : Rd w x.ao x.n x.cap x.bs) (hy : Rd w y.ao y.n y.cap y.bs) : Calls Try.prog 16 #[pvl x, pvl y] w fun e w' => e = .returned (.bool true) ∧ Still w w' := by
  have A0 := Still.alloc w (.cells (pls x) 43)
  have A1 := Still.alloc (newPl w x) (.cells (pls y) 43)
  have p0 := (newPl_b w x).still A1
  have q0 := newPl_b (newPl w x) y
  rw [size_alloc] at q0
  obtain ⟨W, eW⟩ : ∃ W, newPl (newPl w x) y = W := ⟨_, rfl⟩
  have HS0 : Hid (Still w W) := hid (by rw [← eW]; exact A0.trans A1)
  have p0 : Plb W w.heap.size x := by rw [← eW]; exact p0
  rw [eW] at q0
  obtain ⟨c0, c1, c2, c3, _⟩ := p0.cells
  obtain ⟨d0, d1, d2, d3, _⟩ := q0.cells
  have k1 := run_string (P := Try.prog) W 33 5 9 Try.underlying33 Try.underlying5 Try.underlying9 (hx.still HS0.out)
  have k2 := run_string (P := Try.prog) W 33 5 9 Try.underlying33 Try.underlying5 Try.underlying9 (hy.still HS0.out)
  simp only [abP, Prod.mk.injEq] at h
  obtain ⟨e1, e2, e3, e4⟩ := h
  rw [← e1] at d0
  rw [← e2] at d1
  rw [← e3] at d2
  rw [← e4] at k2
  simp only [newPl] at eW
  clear A0 A1 p0 q0 e1 e2 e3 e4 hx hy
  go_enter Try.func16, Try.ntmps16
  go_wp2_with fail
  go_ret
  exact ⟨by simp, HS0.out⟩
end Go.Proofs.Ytakdfckkljbghaa
