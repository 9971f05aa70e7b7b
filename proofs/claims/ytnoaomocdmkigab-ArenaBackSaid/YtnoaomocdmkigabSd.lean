/- The standard maps: the document's answer. A map that is stored, and answered. -/
import Derived.Test.YtnoaomocdmkigabCh
namespace Go.Proofs.Ytnoaomocdmkigab
open Go.RowKit
open Pu Gp Ap

abbrev setA (w : World) (b : Nat) (C R : Int) (s : ByteArray) : World := ((w.setCell ⟨b, 0, none⟩ (.int .i64 C)).setCell ⟨b, 1, none⟩ (.int .i64 R)).setCell ⟨b, 2, none⟩ (.string s)
theorem Ab.set {w : World} {b : Nat} {C R : Int} {s : ByteArray} (h : Ab w b C R s) (C' R' : Int) (s' : ByteArray) : Ab (setA w b C' R' s') b C' R' s' := by
  unfold Ab
  have h1 := heap_setCell_same w b 0 _ _ (.int .i64 C') h
  have h2 := heap_setCell_same _ b 1 _ _ (.int .i64 R') h1
  have h3 := heap_setCell_same _ b 2 _ _ (.string s') h2
  rw [h3]; rfl
theorem setA_fr {F : Nat → Prop} {a w : World} (h : Fr F a w) (b : Nat) (C R : Int) (s : ByteArray) (hb : F b ∨ a.heap.size ≤ b) : Fr F a (setA w b C R s) := ((h.setCell _ _ hb).setCell _ _ hb).setCell _ _ hb
theorem load_ar (w : World) (g : Nat) (C R : Int) (s : ByteArray) (c0 : w.cell? ⟨g, 0, none⟩ = some (.int .i64 C)) (c1 : w.cell? ⟨g, 1, none⟩ = some (.int .i64 R)) (c2 : w.cell? ⟨g, 2, none⟩ = some (.string s)) :
    (loadVar 23 ⟨g, 0, none⟩).run Try.prog w = .ok (ar C R s) w := by
  go_simp
theorem Ab.rest {fn : Func} {p q : Tmp} {w : World} {g : Nat} {C R : Int} {s : ByteArray} (hb : Ab w g C R s) (h : fn.results = #[.cell p 23, .tmp q]) (tmps : Array Value) (t : Value) (hp : tmps.getD p undef = .pointer (some ⟨g, 0, none⟩)) (hq : tmps.getD q undef = t) :
    (results fn tmps).run Try.prog w = .ok (.tuple #[ar C R s, t]) w := by
  rw [results_cell_tmp h, hp, hq]
  simp [asAddr, Result.andThen, load_ar w g C R s hb.cells.1 hb.cells.2.1 hb.cells.2.2.1]
theorem Ab.rest3 {fn : Func} {p q r : Tmp} {w : World} {g : Nat} {C R : Int} {s : ByteArray} (hb : Ab w g C R s) (h : fn.results = #[.cell p 23, .tmp q, .tmp r]) (tmps : Array Value) (t u : Value) (hp : tmps.getD p undef = .pointer (some ⟨g, 0, none⟩)) (hq : tmps.getD q undef = t) (hr : tmps.getD r undef = u) :
    (results fn tmps).run Try.prog w = .ok (.tuple #[ar C R s, t, u]) w := by
  have e : (results fn tmps).run Try.prog w = ((asAddr (tmps.getD p undef)).run Try.prog w).andThen fun a w₁ => ((loadVar 23 a).run Try.prog w₁).andThen fun v w₂ => .ok (.tuple #[v, tmps.getD q undef, tmps.getD r undef]) w₂ := by
    simp only [results, h]
    simp [Sem.run_bind, Result.andThen]
  rw [e, hp, hq, hr]
  simp [asAddr, Result.andThen, load_ar w g C R s hb.cells.1 hb.cells.2.1 hb.cells.2.2.1]
/-- the signs of map 0 -/
def std0 : ByteArray := ⟨#[35, 35, 35, 35, 35, 35, 35, 35, 35, 35, 35, 35, 35, 35, 35, 35, 35, 49, 46, 46, 46, 46, 46, 46, 46, 46, 46, 46, 46, 46, 50, 35, 35, 46, 46, 35, 35, 46, 46, 46, 46, 46, 46, 35, 35, 46, 46, 35, 35, 46, 46, 35, 46, 46, 46, 42, 42, 46, 46, 46, 35, 46, 46, 35, 35, 46, 46, 46, 46, 46, 46, 35, 35, 46, 46, 46, 46, 46, 46, 35, 35, 46, 46, 42, 46, 46, 46, 46, 46, 46, 46, 46, 42, 46, 46, 35, 35, 46, 46, 42, 46, 46, 46, 46, 46, 46, 46, 46, 42, 46, 46, 35, 35, 46, 46, 46, 46, 46, 46, 35, 35, 46, 46, 46, 46, 46, 46, 35, 35, 46, 46, 35, 46, 46, 46, 42, 42, 46, 46, 46, 35, 46, 46, 35, 35, 46, 46, 35, 35, 46, 46, 46, 46, 46, 46, 35, 35, 46, 46, 35, 35, 51, 46, 46, 46, 46, 46, 46, 46, 46, 46, 46, 46, 46, 52, 35, 35, 35, 35, 35, 35, 35, 35, 35, 35, 35, 35, 35, 35, 35, 35, 35]⟩
/-- the signs of map 1 -/
def std1 : ByteArray := ⟨#[35, 35, 35, 35, 35, 35, 35, 35, 35, 35, 35, 35, 35, 35, 35, 35, 35, 35, 35, 35, 35, 49, 46, 46, 46, 46, 46, 46, 46, 46, 51, 46, 46, 46, 46, 46, 46, 46, 50, 35, 35, 46, 46, 35, 35, 35, 46, 46, 42, 46, 46, 46, 46, 42, 46, 46, 35, 35, 46, 35, 35, 46, 46, 35, 46, 46, 46, 46, 46, 46, 46, 35, 46, 46, 46, 46, 46, 46, 46, 35, 35, 46, 46, 46, 46, 46, 42, 46, 46, 46, 46, 35, 46, 46, 46, 46, 42, 46, 46, 35, 35, 46, 46, 46, 46, 46, 46, 46, 46, 46, 46, 35, 46, 46, 46, 46, 46, 46, 46, 35, 35, 46, 46, 35, 35, 46, 46, 42, 46, 46, 46, 46, 46, 46, 42, 46, 35, 35, 46, 35, 35, 52, 46, 46, 46, 46, 46, 46, 46, 46, 54, 46, 46, 46, 46, 46, 46, 46, 53, 35, 35, 35, 35, 35, 35, 35, 35, 35, 35, 35, 35, 35, 35, 35, 35, 35, 35, 35, 35, 35]⟩
/-- the signs of map 2 -/
def std2 : ByteArray := ⟨#[35, 35, 35, 35, 35, 35, 35, 35, 35, 35, 35, 35, 35, 49, 46, 46, 46, 35, 35, 46, 46, 46, 50, 35, 35, 46, 42, 46, 46, 46, 46, 46, 46, 42, 46, 35, 35, 46, 46, 46, 35, 46, 46, 35, 46, 46, 46, 35, 35, 53, 46, 46, 35, 46, 46, 35, 46, 46, 54, 35, 35, 46, 46, 46, 35, 46, 46, 35, 46, 46, 46, 35, 35, 46, 42, 46, 46, 46, 46, 46, 46, 42, 46, 35, 35, 51, 46, 46, 46, 35, 35, 46, 46, 46, 52, 35, 35, 35, 35, 35, 35, 35, 35, 35, 35, 35, 35, 35]⟩
/-- the signs of map 3 -/
def std3 : ByteArray := ⟨#[35, 35, 35, 35, 35, 35, 35, 35, 35, 49, 46, 46, 46, 46, 50, 35, 35, 46, 46, 42, 42, 46, 46, 35, 35, 46, 46, 46, 46, 46, 46, 35, 35, 51, 46, 46, 46, 46, 52, 35, 35, 35, 35, 35, 35, 35, 35, 35]⟩
/-- a standard map: its columns, its rows, its signs, the error -/
def stdC (n : Int) : Int := if n = 0 then 16 else if n = 1 then 20 else if n = 2 then 12 else if n = 3 then 8 else 0
def stdR (n : Int) : Int := if n = 0 then 12 else if n = 1 then 9 else if n = 2 then 9 else if n = 3 then 6 else 0
def stdS (n : Int) : ByteArray := if n = 0 then std0 else if n = 1 then std1 else if n = 2 then std2 else if n = 3 then std3 else ByteArray.empty
def stdE (n : Int) : Int := if 0 ≤ n ∧ n ≤ 3 then 0 else 1
end Go.Proofs.Ytnoaomocdmkigab
