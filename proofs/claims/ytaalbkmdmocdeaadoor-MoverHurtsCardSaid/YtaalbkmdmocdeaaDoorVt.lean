/- Orders and operands in memory; the document's tables; a row of operands. -/
import Derived.Test.YtaalbkmdmocdeaaDoorProg
import Derived.Test.YtaalbkmdmocdeaaDoorVp
import Derived.Test.YtaalbkmdmocdeaaDoorQn
import Derived.Laws.ResultCell
import Derived.Deep.RegionWith
import Derived.BigRegion
import Derived.KernelRfl
import Derived.OwnWalk
import Derived.Lib.Strings
namespace Go.Proofs.YtaalbkmdmocdeaaDoor
open Go.RowKit
open Vp

/-- an order as a value -/
abbrev od (v a b c : Int) : Value := .agg #[.int .i64 v, .int .i64 a, .int .i64 b, .int .i64 c]
/-- block g holds an order -/
def Orb (w : World) (g : Nat) (v a b c : Int) : Prop := w.heap[g]? = some (.cells #[.int .i64 v, .int .i64 a, .int .i64 b, .int .i64 c] 32 (0, 0))
theorem Orb.still {w w' : World} {g : Nat} {v a b c : Int} (h : Orb w g v a b c) (hs : Still w w') : Orb w' g v a b c := hs.kept_still h
theorem Orb.cells {w : World} {g : Nat} {v a b c : Int} (h : Orb w g v a b c) :
    w.cell? ⟨g, 0, none⟩ = some (.int .i64 v) ∧ w.cell? ⟨g, 1, none⟩ = some (.int .i64 a) ∧ w.cell? ⟨g, 2, none⟩ = some (.int .i64 b) ∧ w.cell? ⟨g, 3, none⟩ = some (.int .i64 c) ∧ ∀ o, w.frozen? ⟨g, o, none⟩ = false := by
  refine ⟨?_, ?_, ?_, ?_, fun o => frozen_of_row w g o _ _ h⟩ <;> (rw [cell_of_row _ _ _ _ _ _ h]; rfl)
abbrev newO (w : World) (v a b c : Int) : World := w.alloc (.cells #[.int .i64 v, .int .i64 a, .int .i64 b, .int .i64 c] 32)
theorem newO_orb (w : World) (v a b c : Int) : Orb (newO w v a b c) w.heap.size v a b c := heap_alloc_new w _
abbrev setO (w : World) (g : Nat) (v a b c : Int) : World := (((w.setCell ⟨g, 0, none⟩ (.int .i64 v)).setCell ⟨g, 1, none⟩ (.int .i64 a)).setCell ⟨g, 2, none⟩ (.int .i64 b)).setCell ⟨g, 3, none⟩ (.int .i64 c)
theorem Orb.set {w : World} {g : Nat} {v a b c : Int} (h : Orb w g v a b c) (v' a' b' c' : Int) : Orb (setO w g v' a' b' c') g v' a' b' c' := by
  unfold Orb
  have h1 := heap_setCell_same w g 0 _ _ (.int .i64 v') h
  have h2 := heap_setCell_same _ g 1 _ _ (.int .i64 a') h1
  have h3 := heap_setCell_same _ g 2 _ _ (.int .i64 b') h2
  have h4 := heap_setCell_same _ g 3 _ _ (.int .i64 c') h3
  rw [h4]; rfl
theorem setO_fr {F : Nat → Prop} {x w : World} (h : Fr F x w) (g : Nat) (v a b c : Int) (hb : F g ∨ x.heap.size ≤ g) : Fr F x (setO w g v a b c) := (((h.setCell _ _ hb).setCell _ _ hb).setCell _ _ hb).setCell _ _ hb
theorem load_or (w : World) (g : Nat) (v a b c : Int) (c0 : w.cell? ⟨g, 0, none⟩ = some (.int .i64 v)) (c1 : w.cell? ⟨g, 1, none⟩ = some (.int .i64 a)) (c2 : w.cell? ⟨g, 2, none⟩ = some (.int .i64 b)) (c3 : w.cell? ⟨g, 3, none⟩ = some (.int .i64 c)) :
    (loadVar 32 ⟨g, 0, none⟩).run Tryd.prog w = .ok (od v a b c) w := by
  go_simp
theorem Orb.rest {fn : Func} {p q : Tmp} {w : World} {g : Nat} {v a b c : Int} (hb : Orb w g v a b c) (h : fn.results = #[.cell p 32, .tmp q]) (tmps : Array Value) (t : Value) (hp : tmps.getD p undef = .pointer (some ⟨g, 0, none⟩)) (hq : tmps.getD q undef = t) :
    (results fn tmps).run Tryd.prog w = .ok (.tuple #[od v a b c, t]) w := by
  rw [results_cell_tmp h, hp, hq]
  simp [asAddr, Result.andThen, load_or w g v a b c hb.cells.1 hb.cells.2.1 hb.cells.2.2.1 hb.cells.2.2.2.1]
/-- the cells of operands -/
def opsOf (ps : List (ByteArray × Int × Int)) : List Value := ps.flatMap fun p => [.string p.1, .int .i64 p.2.1, .int .i64 p.2.2]
theorem opsOf_len (ps : List (ByteArray × Int × Int)) : (opsOf ps).length = ps.length * 3 := by
  induction ps with
  | nil => rfl
  | cons p l ih => simp only [opsOf, List.flatMap_cons, List.length_append, List.length_cons, List.length_nil] at ih ⊢; omega
theorem opsOf_app (ps qs : List (ByteArray × Int × Int)) : opsOf (ps ++ qs) = opsOf ps ++ opsOf qs := by simp [opsOf]
theorem opsOf_one (ps : List (ByteArray × Int × Int)) : ∀ u ∈ opsOf ps, u.oneCell' = true := by
  intro u hu
  simp only [opsOf, List.mem_flatMap] at hu
  obtain ⟨p, _, hp⟩ := hu
  simp at hp
  rcases hp with rfl | rfl | rfl <;> rfl
theorem opsOf_get : ∀ (ps : List (ByteArray × Int × Int)) (j : Nat) (h : j < ps.length), (opsOf ps)[j * 3]? = some (.string (ps[j]).1) ∧ (opsOf ps)[j * 3 + 1]? = some (.int .i64 (ps[j]).2.1) ∧ (opsOf ps)[j * 3 + 2]? = some (.int .i64 (ps[j]).2.2)
  | [], j, h => by simp at h
  | p :: l, 0, h => by simp [opsOf]
  | p :: l, j + 1, h => by
    have ih := opsOf_get l j (by simpa using h)
    have e : opsOf (p :: l) = [.string p.1, .int .i64 p.2.1, .int .i64 p.2.2] ++ opsOf l := by simp [opsOf]
    rw [e]
    rw [List.getElem?_append_right (by simp; omega), List.getElem?_append_right (by simp; omega), List.getElem?_append_right (by simp; omega)]
    simp only [List.length_cons, List.length_nil, List.getElem_cons_succ]
    rw [show (j + 1) * 3 - (0 + 1 + 1 + 1) = j * 3 by omega, show (j + 1) * 3 + 1 - (0 + 1 + 1 + 1) = j * 3 + 1 by omega, show (j + 1) * 3 + 2 - (0 + 1 + 1 + 1) = j * 3 + 2 by omega]
    exact ih
/-- v owns a row of these operands (from block B on) -/
def OwO (w : World) (B : Nat) (v : Value) (ps : List (ByteArray × Int × Int)) : Prop := w.ownsRow B 88 3 v ps.length (opsOf ps)
theorem OwO.nil (w : World) (B : Nat) : OwO w B (.slice none 0 0) [] := World.ownsRow_nil w B _ 3
theorem OwO.keep {F : Nat → Prop} {w w' : World} {B : Nat} {v : Value} {ps : List (ByteArray × Int × Int)} (h : OwO w B v ps) (hf : Fr F w w') (hF : ∀ k, F k → v.ownBlock ≠ some k) : OwO w' B v ps := by
  refine ⟨h.1, ?_⟩
  rcases h.2 with hn | ⟨g, cap, cur, rfl, hb, hg, rest⟩
  · exact .inl hn
  · exact .inr ⟨g, cap, cur, rfl, hb, hf.kept hg (fun h => hF g h rfl), rest⟩
theorem OwO.still {w w' : World} {B : Nat} {v : Value} {ps : List (ByteArray × Int × Int)} (h : OwO w B v ps) (hf : Still w w') : OwO w' B v ps := h.keep hf (fun _ e => e.elim)
theorem OwO.alloc {w : World} {B : Nat} {v : Value} {ps : List (ByteArray × Int × Int)} (h : OwO w B v ps) (o : Obj) : OwO (w.alloc o) B v ps := h.still (Still.alloc w o)
theorem OwO.less {w : World} {B B' : Nat} {v : Value} {ps : List (ByteArray × Int × Int)} (h : OwO w B v ps) (hb : B' ≤ B) : OwO w B' v ps := by
  refine ⟨h.1, ?_⟩
  rcases h.2 with hn | ⟨g, cap, cur, rfl, hg, rest⟩
  · exact .inl hn
  · exact .inr ⟨g, cap, cur, rfl, by omega, rest⟩
theorem OwO.slice {w : World} {B : Nat} {v : Value} {ps : List (ByteArray × Int × Int)} (h : OwO w B v ps) : ∃ ao cap, v = .slice ao ps.length cap ∧ (ao = none ∨ ∃ g, ao = some ⟨g, 0, none⟩ ∧ B ≤ g ∧ g < w.heap.size) := by
  rcases h.2 with ⟨rfl, hn⟩ | ⟨g, cap, cur, rfl, hb, hg, rest⟩
  · exact ⟨none, 0, by rw [hn], .inl rfl⟩
  · exact ⟨_, cap, rfl, .inr ⟨g, rfl, hb, block_lt hg⟩⟩
theorem OwO.block {w : World} {B k : Nat} {v : Value} {ps : List (ByteArray × Int × Int)} (h : OwO w B v ps) (hk : v.ownBlock = some k) : B ≤ k ∧ k < w.heap.size := h.lt k hk
theorem OwO.head {w : World} {B : Nat} {v : Value} {ps : List (ByteArray × Int × Int)} (h : OwO w B v ps) (hn : 0 < ps.length) : ∃ g cap, v = .slice (some ⟨g, 0, none⟩) ps.length cap ∧ B ≤ g ∧ g < w.heap.size := by
  rcases h.2 with ⟨rfl, h0⟩ | ⟨g, cap, cur, rfl, hb, hg, rest⟩
  · omega
  · exact ⟨g, cap, rfl, hb, block_lt hg⟩
theorem OwO.cell {w : World} {B g n cap : Nat} {ps : List (ByteArray × Int × Int)} (h : OwO w B (.slice (some ⟨g, 0, none⟩) n cap) ps) (j : Nat) (hj : j < ps.length) :
    w.cell? ⟨g, j * 3, none⟩ = some (.string (ps[j]).1) ∧ w.cell? ⟨g, j * 3 + 1, none⟩ = some (.int .i64 (ps[j]).2.1) ∧ w.cell? ⟨g, j * 3 + 2, none⟩ = some (.int .i64 (ps[j]).2.2) ∧ ∀ o, w.frozen? ⟨g, o, none⟩ = false := by
  obtain ⟨h1, h2, h3⟩ := opsOf_get ps j hj
  have k1 := World.ownsRow.cells h (g := g) rfl _ _ h1
  have k2 := World.ownsRow.cells h (g := g) rfl _ _ h2
  have k3 := World.ownsRow.cells h (g := g) rfl _ _ h3
  rw [add_plain, Nat.zero_add] at k1 k2 k3
  refine ⟨k1, k2, k3, fun o => ?_⟩
  rcases h.2 with ⟨hv, _⟩ | ⟨g', cap', cur, hv, hb, hg, rest⟩
  · cases hv
  · cases hv; exact frozen_of_row w g o _ _ hg
/-- block g holds an operand -/
def Opb (w : World) (g : Nat) (s : ByteArray) (x y : Int) : Prop := w.heap[g]? = some (.cells #[.string s, .int .i64 x, .int .i64 y] 88 (0, 0))
theorem Opb.still {w w' : World} {g : Nat} {s : ByteArray} {x y : Int} (h : Opb w g s x y) (hs : Still w w') : Opb w' g s x y := hs.kept_still h
theorem Opb.cells {w : World} {g : Nat} {s : ByteArray} {x y : Int} (h : Opb w g s x y) :
    w.cell? ⟨g, 0, none⟩ = some (.string s) ∧ w.cell? ⟨g, 1, none⟩ = some (.int .i64 x) ∧ w.cell? ⟨g, 2, none⟩ = some (.int .i64 y) ∧ ∀ o, w.frozen? ⟨g, o, none⟩ = false := by
  refine ⟨?_, ?_, ?_, fun o => frozen_of_row w g o _ _ h⟩ <;> (rw [cell_of_row _ _ _ _ _ _ h]; rfl)
abbrev newOp (w : World) (s : ByteArray) (x y : Int) : World := w.alloc (.cells #[.string s, .int .i64 x, .int .i64 y] 88)
theorem newOp_opb (w : World) (s : ByteArray) (x y : Int) : Opb (newOp w s x y) w.heap.size s x y := heap_alloc_new w _
/-- a row of one operand -/
theorem OwO.one {w : World} {g B : Nat} {s : ByteArray} {x y : Int} (h : Opb w g s x y) (hB : B ≤ g) : OwO w B (.slice (some ⟨g, 0, none⟩) 1 1) [(s, x, y)] :=
  ⟨rfl, .inr ⟨g, 1, _, rfl, hB, h, by simp, by simp [maxLen], rfl, rfl⟩⟩
theorem info_opk : (Tryd.prog.info? 88).map (fun i => (i.zero, i.size, i.bytes)) = some (some (.agg #[.string ByteArray.empty, .int .i64 0, .int .i64 0]), 3, 32) := by kernel_rfl
theorem info_op : ∃ i, Tryd.prog.info? 88 = some i ∧ i.zero = some (.agg #[.string ByteArray.empty, .int .i64 0, .int .i64 0]) ∧ i.size = 3 ∧ i.bytes = 32 := info_parts info_opk
/-- 'append(s, p)' of operands, s its owner's: as the walk takes it. -/
theorem wpList_appO (w : World) {ops : Array Oper} {rest : List Oper} {o : Oper} {a : Act} {Q : Exit → Act → World → Prop} (hgd : o.guard = none) (s x : Operand)
    (hop : o.op = .call { callee := .builtin .append, args := #[s, x], argTypes := #[80, 80] })
    (B g : Nat) (v : Value) (ps : List (ByteArray × Int × Int)) (n : ByteArray) (p q : Int) (hs : a.eval s = v) (hx : a.eval x = .slice (some ⟨g, 0, none⟩) 1 1) (ho : OwO w B v ps) (hr : Opb w g n p q) (h47 : ps.length ≤ 100000) (hB : B ≤ w.heap.size)
    (h : ∀ v' w', OwO w' B v' (ps ++ [(n, p, q)]) → Fr (fun k => v.ownBlock = some k) w w' → wpList Tryd.prog ops Q rest (a.put o.dst v') w') : wpList Tryd.prog ops Q (o :: rest) a w := by
  obtain ⟨i, hi, hz, h1, h2⟩ := info_op
  refine wpList_append_own (P := Tryd.prog) w hgd s x 80 hop B 88 i (.agg #[.string ByteArray.empty, .int .i64 0, .int .i64 0]) 3 32 Tryd.underlying80 hi hz h1 h2 rfl (by omega) v ps.length (opsOf ps) hs ho ⟨g, 0, none⟩ 1 1 (opsOf [(n, p, q)]) hx rfl ?_ (opsOf_one _) (by unfold maxLen; omega) (by omega) hB ?_
  · intro j u hu
    rw [add_plain, Nat.zero_add]
    have hj : j < 3 := by
      have := (List.getElem?_eq_some_iff.1 hu).1
      simpa [opsOf] using this
    rcases (show j = 0 ∨ j = 1 ∨ j = 2 by omega) with rfl | rfl | rfl
    · simp [opsOf] at hu; subst hu; exact hr.cells.1
    · simp [opsOf] at hu; subst hu; exact hr.cells.2.1
    · simp [opsOf] at hu; subst hu; exact hr.cells.2.2.1
  · intro v' w' hown hgr _
    refine h v' w' ?_ ⟨hgr.os, hgr.tape, hgr.output, hgr.size, fun k hk hn => hgr.block k hk (fun e => hn e.symm)⟩
    unfold OwO
    rw [opsOf_app, List.length_append]
    exact hown
theorem still_appO {w0 w w' : World} {B : Nat} {v : Value} {ps : List (ByteArray × Int × Int)} (hs : Still w0 w) (ho : OwO w B v ps) (hf : Fr (fun k => v.ownBlock = some k) w w') (hB : w0.heap.size ≤ B) : Still w0 w' :=
  Fr.trans hs hf (fun k hk e => by have := (ho.block e).1; omega)
/-- The document's other tables. -/
structure OTab (w : World) : Prop where
  fs : ∀ d, d < 7 → w.cell? ⟨2, d, none⟩ = some (.string (fsB d))
  lo : ∀ d, d < 7 → w.cell? ⟨3, d, none⟩ = some (.int .i64 (lo d))
  hi : ∀ d, d < 7 → w.cell? ⟨4, d, none⟩ = some (.int .i64 (hi d))
theorem OTab.still {w w' : World} /- 67 -/ (h : OTab w) (hs : Still w w') : OTab w' :=
  ⟨fun d hd => (hs.cell (World.block_lt_of_cell? w _ (h.fs d hd)) (fun e => e)).trans (h.fs d hd), fun d hd => (hs.cell (World.block_lt_of_cell? w _ (h.lo d hd)) (fun e => e)).trans (h.lo d hd), fun d hd => (hs.cell (World.block_lt_of_cell? w _ (h.hi d hd)) (fun e => e)).trans (h.hi d hd)⟩
end Go.Proofs.YtaalbkmdmocdeaaDoor
