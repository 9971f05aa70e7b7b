/- The program's Print and scoreText. -/
import Derived.Test.YtdljmpjfiggdiaaDoorWxb
import Derived.Test.YtdljmpjfiggdiaaDoorWvb
import Derived.Test.YtdljmpjfiggdiaaDoorWvh
namespace Go.Proofs.YtdljmpjfiggdiaaDoor
open Go.RowKit
open Pu Gp Np Za Ka Ja Ea Ha
set_option maxRecDepth 100000

theorem PTabV.alloc {w : World} (h : PTabV w) (b : Obj) : PTabV (w.alloc b) := h.still (Still.alloc w b)
/-- counters with their words -/
def nmP (c : Ctr) : List Nmd := [⟨⟨#[116, 105, 99, 107, 115]⟩, c.tk⟩, ⟨⟨#[115, 116, 97, 108, 108, 115]⟩, c.sl⟩, ⟨⟨#[115, 116, 101, 112, 115]⟩, c.sp⟩, ⟨⟨#[99, 111, 112, 105, 101, 115]⟩, c.cp⟩, ⟨⟨#[108, 97, 116, 101]⟩, c.lt⟩, ⟨⟨#[115, 101, 110, 116]⟩, c.sn⟩, ⟨⟨#[103, 111, 116]⟩, c.gt⟩, ⟨⟨#[114, 101, 102, 117, 115, 101, 100]⟩, c.rf⟩, ⟨⟨#[97, 99, 99, 101, 112, 116, 101, 100]⟩, c.ac⟩]
theorem jn_print (c : Ctr) : jnS (nmP c) = prS c := by
  unfold jnS jnW nmP prS
  simp only [List.flatMap_cons, List.flatMap_nil, List.cons_append, List.nil_append]
  generalize itS c.tk = x0
  generalize itS c.sl = x1
  generalize itS c.sp = x2
  generalize itS c.cp = x3
  generalize itS c.lt = x4
  generalize itS c.sn = x5
  generalize itS c.gt = x6
  generalize itS c.rf = x7
  generalize itS c.ac = x8
  apply ByteArray.ext
  apply Array.toList_inj.1
  simp [Lib.join_cons, Lib.joinTail]
set_option maxHeartbeats 2000000 in
theorem print23_any (c : Ctr) (hc : c.In) (w : World) (ht : PTabV w) : Calls Tryd.prog 16 #[.agg (ctcs c)] w fun e w' => e = .returned (.string (prS c)) ∧ Still w w' := by
  have A0 := Still.alloc w (.cells (ctcs c) 46)
  have p0 : Ctb (w.alloc (.cells (ctcs c) 46)) w.heap.size c := heap_alloc_new w _
  obtain ⟨c0, c1, c2, c3, c4, c5, c6, c7, c8⟩ := p0.cells
  have A1 := Still.alloc (w.alloc (.cells (ctcs c) 46)) (.cells #[.string ⟨#[116, 105, 99, 107, 115]⟩, .int .i64 c.tk, .string ⟨#[115, 116, 97, 108, 108, 115]⟩, .int .i64 c.sl, .string ⟨#[115, 116, 101, 112, 115]⟩, .int .i64 c.sp, .string ⟨#[99, 111, 112, 105, 101, 115]⟩, .int .i64 c.cp, .string ⟨#[108, 97, 116, 101]⟩, .int .i64 c.lt, .string ⟨#[115, 101, 110, 116]⟩, .int .i64 c.sn, .string ⟨#[103, 111, 116]⟩, .int .i64 c.gt, .string ⟨#[114, 101, 102, 117, 115, 101, 100]⟩, .int .i64 c.rf, .string ⟨#[97, 99, 99, 101, 112, 116, 101, 100]⟩, .int .i64 c.ac] 76)
  have r1 : RdG KNm ((w.alloc (.cells (ctcs c) 46)).alloc (.cells #[.string ⟨#[116, 105, 99, 107, 115]⟩, .int .i64 c.tk, .string ⟨#[115, 116, 97, 108, 108, 115]⟩, .int .i64 c.sl, .string ⟨#[115, 116, 101, 112, 115]⟩, .int .i64 c.sp, .string ⟨#[99, 111, 112, 105, 101, 115]⟩, .int .i64 c.cp, .string ⟨#[108, 97, 116, 101]⟩, .int .i64 c.lt, .string ⟨#[115, 101, 110, 116]⟩, .int .i64 c.sn, .string ⟨#[103, 111, 116]⟩, .int .i64 c.gt, .string ⟨#[114, 101, 102, 117, 115, 101, 100]⟩, .int .i64 c.rf, .string ⟨#[97, 99, 99, 101, 112, 116, 101, 100]⟩, .int .i64 c.ac] 76)) (some ⟨(w.alloc (.cells (ctcs c) 46)).heap.size, 0, none⟩) 9 (nmP c) := rd_blk (heap_alloc_new _ _) (nmP c) rfl (Nat.le_of_ble_eq_true rfl)
  have H1 := hid (joinedV_any (nmP c) (by
    obtain ⟨h0, h1, h2, h3, h4, h5, h6, h7, h8⟩ := hc
    intro x hx
    simp only [nmP, List.mem_cons, List.not_mem_nil, or_false] at hx
    rcases hx with rfl | rfl | rfl | rfl | rfl | rfl | rfl | rfl | rfl <;> exact ⟨by assumption, Nat.le_of_ble_eq_true rfl⟩) (Nat.le_refl 9) (by show 0 < 9; omega) _ 9 9 _ r1 (ht.still (A0.trans A1)))
  rw [jn_print, size_alloc] at H1
  have HS1 := hid (A0.trans A1)
  obtain ⟨T, eT⟩ : ∃ T, prS c = T := ⟨_, rfl⟩
  rw [eT] at H1 ⊢
  clear A0 A1 r1 p0 hc ht eT
  go_enter Tryd.func16, Tryd.ntmps16
  go_wp2_with fail
  refine H1.out.mono ?_
  rintro e w2 ⟨rfl, h2⟩
  have HS2 := hid (HS1.out.trans h2)
  clear h2 H1 HS1
  go_wp2_with fail
  go_ret
  exact ⟨rfl, HS2.out⟩
/-- a score as text -/
def scS (x : Scr) : ByteArray := ((((((((⟨#[112, 111, 105, 110, 116, 115, 32]⟩ : ByteArray) ++ itS x.p) ++ ⟨#[32, 104, 105, 116, 115, 32]⟩) ++ itS x.h) ++ ⟨#[32, 111, 117, 116, 115, 32]⟩) ++ itS x.o) ++ ⟨#[32, 115, 116, 114, 101, 97, 107, 32]⟩) ++ itS x.k)
def nmS (x : Scr) : List Nmd := [⟨⟨#[112, 111, 105, 110, 116, 115]⟩, x.p⟩, ⟨⟨#[104, 105, 116, 115]⟩, x.h⟩, ⟨⟨#[111, 117, 116, 115]⟩, x.o⟩, ⟨⟨#[115, 116, 114, 101, 97, 107]⟩, x.k⟩]
theorem jn_score (x : Scr) : jnS (nmS x) = scS x := by
  unfold jnS jnW nmS scS
  simp only [List.flatMap_cons, List.flatMap_nil, List.cons_append, List.nil_append]
  generalize itS x.p = y0
  generalize itS x.h = y1
  generalize itS x.o = y2
  generalize itS x.k = y3
  apply ByteArray.ext
  apply Array.toList_inj.1
  simp [Lib.join_cons, Lib.joinTail]
set_option maxHeartbeats 2000000 in
theorem scoreText_any (x : Scr) (hx : MayC x) (w : World) (ht : PTabV w) : Calls Tryd.prog 27 #[cv x] w fun e w' => e = .returned (.string (scS x)) ∧ Still w w' := by
  have A0 := Still.alloc w (.cells (ccs x) 54)
  have p0 : Cb (w.alloc (.cells (ccs x) 54)) w.heap.size x := heap_alloc_new w _
  obtain ⟨c0, c1, c2, c3, cf⟩ := p0.cells
  have A1 := Still.alloc (w.alloc (.cells (ccs x) 54)) (.cells #[.string ⟨#[112, 111, 105, 110, 116, 115]⟩, .int .i64 x.p, .string ⟨#[104, 105, 116, 115]⟩, .int .i64 x.h, .string ⟨#[111, 117, 116, 115]⟩, .int .i64 x.o, .string ⟨#[115, 116, 114, 101, 97, 107]⟩, .int .i64 x.k] 76)
  have r1 : RdG KNm ((w.alloc (.cells (ccs x) 54)).alloc (.cells #[.string ⟨#[112, 111, 105, 110, 116, 115]⟩, .int .i64 x.p, .string ⟨#[104, 105, 116, 115]⟩, .int .i64 x.h, .string ⟨#[111, 117, 116, 115]⟩, .int .i64 x.o, .string ⟨#[115, 116, 114, 101, 97, 107]⟩, .int .i64 x.k] 76)) (some ⟨(w.alloc (.cells (ccs x) 54)).heap.size, 0, none⟩) 4 (nmS x) := rd_blk (heap_alloc_new _ _) (nmS x) rfl (Nat.le_of_ble_eq_true rfl)
  have H1 := hid (joinedV_any (nmS x) (by
    obtain ⟨h0, h1, h2, h3⟩ := hx
    intro y hy
    simp only [nmS, List.mem_cons, List.not_mem_nil, or_false] at hy
    rcases hy with rfl | rfl | rfl | rfl <;> exact ⟨⟨by dsimp only; omega, by dsimp only; omega⟩, Nat.le_of_ble_eq_true rfl⟩) (by show 4 ≤ 9; omega) (by show 0 < 4; omega) _ 4 4 _ r1 (ht.still (A0.trans A1)))
  rw [jn_score, size_alloc] at H1
  have HS1 := hid (A0.trans A1)
  obtain ⟨T, eT⟩ : ∃ T, scS x = T := ⟨_, rfl⟩
  rw [eT] at H1 ⊢
  clear A0 A1 r1 p0 hx ht eT
  go_enter Tryd.func27, Tryd.ntmps27
  go_wp2_with fail
  refine H1.out.mono ?_
  rintro e w2 ⟨rfl, h2⟩
  have HS2 := hid (HS1.out.trans h2)
  clear h2 H1 HS1
  go_wp2_with fail
  go_ret
  exact ⟨rfl, HS2.out⟩
end Go.Proofs.YtdljmpjfiggdiaaDoor
