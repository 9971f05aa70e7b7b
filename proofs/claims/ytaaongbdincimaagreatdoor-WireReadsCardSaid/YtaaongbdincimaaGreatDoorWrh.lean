/- A datagram's variable: stores, and results. -/
import Derived.Test.YtaaongbdincimaaGreatDoorWrd
namespace Go.Proofs.YtaaongbdincimaaGreatDoor
open Go.RowKit
open Wp Vp
set_option maxRecDepth 100000
set_option linter.unusedVariables false
set_option linter.unusedSimpArgs false

abbrev setDg (w : World) (g : Nat) (d : Dg) (co : Option Addr) (cn cp : Nat) : World := (((((((w.setCell ⟨g, 0, none⟩ (.int .i64 d.kd)).setCell ⟨g, 1, none⟩ (.int .u64 d.ss)).setCell ⟨g, 2, none⟩ (.int .i64 d.fr)).setCell ⟨g, 3, none⟩ (.int .i64 d.to)).setCell ⟨g, 4, none⟩ (.int .i64 d.mrk)).setCell ⟨g, 5, none⟩ (.int .i64 d.fi)).setCell ⟨g, 6, none⟩ (.slice co cn cp)).setCell ⟨g, 7, none⟩ (.int .i64 d.ak)
theorem Dgb.set {w : World} {g : Nat} {d : Dg} {co : Option Addr} {cn cp : Nat} (h : Dgb w g d co cn cp) (d' : Dg) (co' : Option Addr) (cn' cp' : Nat) : Dgb (setDg w g d' co' cn' cp') g d' co' cn' cp' := by
  unfold Dgb at h ⊢
  have h1 : (w.setCell ⟨g, 0, none⟩ (.int .i64 d'.kd)).heap[g]? = some (.cells #[.int .i64 d'.kd, .int .u64 d.ss, .int .i64 d.fr, .int .i64 d.to, .int .i64 d.mrk, .int .i64 d.fi, .slice co cn cp, .int .i64 d.ak] 25 (0, 0)) := by rw [heap_setCell_same _ g 0 _ _ _ h]; rfl
  have h2 : ((w.setCell ⟨g, 0, none⟩ (.int .i64 d'.kd)).setCell ⟨g, 1, none⟩ (.int .u64 d'.ss)).heap[g]? = some (.cells #[.int .i64 d'.kd, .int .u64 d'.ss, .int .i64 d.fr, .int .i64 d.to, .int .i64 d.mrk, .int .i64 d.fi, .slice co cn cp, .int .i64 d.ak] 25 (0, 0)) := by rw [heap_setCell_same _ g 1 _ _ _ h1]; rfl
  have h3 : (((w.setCell ⟨g, 0, none⟩ (.int .i64 d'.kd)).setCell ⟨g, 1, none⟩ (.int .u64 d'.ss)).setCell ⟨g, 2, none⟩ (.int .i64 d'.fr)).heap[g]? = some (.cells #[.int .i64 d'.kd, .int .u64 d'.ss, .int .i64 d'.fr, .int .i64 d.to, .int .i64 d.mrk, .int .i64 d.fi, .slice co cn cp, .int .i64 d.ak] 25 (0, 0)) := by rw [heap_setCell_same _ g 2 _ _ _ h2]; rfl
  have h4 : ((((w.setCell ⟨g, 0, none⟩ (.int .i64 d'.kd)).setCell ⟨g, 1, none⟩ (.int .u64 d'.ss)).setCell ⟨g, 2, none⟩ (.int .i64 d'.fr)).setCell ⟨g, 3, none⟩ (.int .i64 d'.to)).heap[g]? = some (.cells #[.int .i64 d'.kd, .int .u64 d'.ss, .int .i64 d'.fr, .int .i64 d'.to, .int .i64 d.mrk, .int .i64 d.fi, .slice co cn cp, .int .i64 d.ak] 25 (0, 0)) := by rw [heap_setCell_same _ g 3 _ _ _ h3]; rfl
  have h5 : (((((w.setCell ⟨g, 0, none⟩ (.int .i64 d'.kd)).setCell ⟨g, 1, none⟩ (.int .u64 d'.ss)).setCell ⟨g, 2, none⟩ (.int .i64 d'.fr)).setCell ⟨g, 3, none⟩ (.int .i64 d'.to)).setCell ⟨g, 4, none⟩ (.int .i64 d'.mrk)).heap[g]? = some (.cells #[.int .i64 d'.kd, .int .u64 d'.ss, .int .i64 d'.fr, .int .i64 d'.to, .int .i64 d'.mrk, .int .i64 d.fi, .slice co cn cp, .int .i64 d.ak] 25 (0, 0)) := by rw [heap_setCell_same _ g 4 _ _ _ h4]; rfl
  have h6 : ((((((w.setCell ⟨g, 0, none⟩ (.int .i64 d'.kd)).setCell ⟨g, 1, none⟩ (.int .u64 d'.ss)).setCell ⟨g, 2, none⟩ (.int .i64 d'.fr)).setCell ⟨g, 3, none⟩ (.int .i64 d'.to)).setCell ⟨g, 4, none⟩ (.int .i64 d'.mrk)).setCell ⟨g, 5, none⟩ (.int .i64 d'.fi)).heap[g]? = some (.cells #[.int .i64 d'.kd, .int .u64 d'.ss, .int .i64 d'.fr, .int .i64 d'.to, .int .i64 d'.mrk, .int .i64 d'.fi, .slice co cn cp, .int .i64 d.ak] 25 (0, 0)) := by rw [heap_setCell_same _ g 5 _ _ _ h5]; rfl
  have h7 : (((((((w.setCell ⟨g, 0, none⟩ (.int .i64 d'.kd)).setCell ⟨g, 1, none⟩ (.int .u64 d'.ss)).setCell ⟨g, 2, none⟩ (.int .i64 d'.fr)).setCell ⟨g, 3, none⟩ (.int .i64 d'.to)).setCell ⟨g, 4, none⟩ (.int .i64 d'.mrk)).setCell ⟨g, 5, none⟩ (.int .i64 d'.fi)).setCell ⟨g, 6, none⟩ (.slice co' cn' cp')).heap[g]? = some (.cells #[.int .i64 d'.kd, .int .u64 d'.ss, .int .i64 d'.fr, .int .i64 d'.to, .int .i64 d'.mrk, .int .i64 d'.fi, .slice co' cn' cp', .int .i64 d.ak] 25 (0, 0)) := by rw [heap_setCell_same _ g 6 _ _ _ h6]; rfl
  have h8 : ((((((((w.setCell ⟨g, 0, none⟩ (.int .i64 d'.kd)).setCell ⟨g, 1, none⟩ (.int .u64 d'.ss)).setCell ⟨g, 2, none⟩ (.int .i64 d'.fr)).setCell ⟨g, 3, none⟩ (.int .i64 d'.to)).setCell ⟨g, 4, none⟩ (.int .i64 d'.mrk)).setCell ⟨g, 5, none⟩ (.int .i64 d'.fi)).setCell ⟨g, 6, none⟩ (.slice co' cn' cp')).setCell ⟨g, 7, none⟩ (.int .i64 d'.ak)).heap[g]? = some (.cells #[.int .i64 d'.kd, .int .u64 d'.ss, .int .i64 d'.fr, .int .i64 d'.to, .int .i64 d'.mrk, .int .i64 d'.fi, .slice co' cn' cp', .int .i64 d'.ak] 25 (0, 0)) := by rw [heap_setCell_same _ g 7 _ _ _ h7]; rfl
  exact h8
theorem setDg_fr {F : Nat → Prop} {x w : World} (h : Fr F x w) (g : Nat) (d : Dg) (co : Option Addr) (cn cp : Nat) (hb : F g ∨ x.heap.size ≤ g) : Fr F x (setDg w g d co cn cp) := (((((((h.setCell _ _ hb).setCell _ _ hb).setCell _ _ hb).setCell _ _ hb).setCell _ _ hb).setCell _ _ hb).setCell _ _ hb).setCell _ _ hb
theorem load_dg (w : World) (g : Nat) (d : Dg) (co : Option Addr) (cn cp : Nat) (c0 : w.cell? ⟨g, 0, none⟩ = some (.int .i64 d.kd)) (c1 : w.cell? ⟨g, 1, none⟩ = some (.int .u64 d.ss)) (c2 : w.cell? ⟨g, 2, none⟩ = some (.int .i64 d.fr)) (c3 : w.cell? ⟨g, 3, none⟩ = some (.int .i64 d.to)) (c4 : w.cell? ⟨g, 4, none⟩ = some (.int .i64 d.mrk)) (c5 : w.cell? ⟨g, 5, none⟩ = some (.int .i64 d.fi)) (c6 : w.cell? ⟨g, 6, none⟩ = some (.slice co cn cp)) (c7 : w.cell? ⟨g, 7, none⟩ = some (.int .i64 d.ak)) :
    (loadVar 25 ⟨g, 0, none⟩).run Tryz.prog w = .ok (dgv d co cn cp) w := by
  go_simp
theorem Dgb.res {fn : Func} {p : Tmp} {w : World} {g : Nat} {d : Dg} {co : Option Addr} {cn cp : Nat} (hb : Dgb w g d co cn cp) (h : fn.results = #[.cell p 25]) (tmps : Array Value) (hp : tmps.getD p undef = .pointer (some ⟨g, 0, none⟩)) :
    (results fn tmps).run Tryz.prog w = .ok (dgv d co cn cp) w := by
  have hp' : tmps[p]?.getD undef = .pointer (some ⟨g, 0, none⟩) := by simpa using hp
  obtain ⟨c0, c1, c2, c3, c4, c5, c6, c7, _⟩ := hb.cells
  simp [results, h, hp', asAddr, load_dg w g d co cn cp c0 c1 c2 c3 c4 c5 c6 c7]
theorem Dgb.rest {fn : Func} {p q : Tmp} {w : World} {g : Nat} {d : Dg} {co : Option Addr} {cn cp : Nat} (hb : Dgb w g d co cn cp) (h : fn.results = #[.cell p 25, .tmp q]) (tmps : Array Value) (t : Value) (hp : tmps.getD p undef = .pointer (some ⟨g, 0, none⟩)) (hq : tmps.getD q undef = t) :
    (results fn tmps).run Tryz.prog w = .ok (.tuple #[dgv d co cn cp, t]) w := by
  obtain ⟨c0, c1, c2, c3, c4, c5, c6, c7, _⟩ := hb.cells
  rw [results_cell_tmp h, hp, hq]
  simp [asAddr, Result.andThen, load_dg w g d co cn cp c0 c1 c2 c3 c4 c5 c6 c7]
theorem dset4 {w : World} {g : Nat} {d : Dg} {co : Option Addr} {cn cp : Nat} (h : Dgb w g d co cn cp) (m : Int) : Dgb (w.setCell ⟨g, 4, none⟩ (.int .i64 m)) g ⟨d.kd, d.ss, d.fr, d.to, m, d.fi, d.cs, d.ak⟩ co cn cp := by
  unfold Dgb; rw [heap_setCell_same _ g 4 _ _ _ h]; rfl
theorem dset5 {w : World} {g : Nat} {d : Dg} {co : Option Addr} {cn cp : Nat} (h : Dgb w g d co cn cp) (m : Int) : Dgb (w.setCell ⟨g, 5, none⟩ (.int .i64 m)) g ⟨d.kd, d.ss, d.fr, d.to, d.mrk, m, d.cs, d.ak⟩ co cn cp := by
  unfold Dgb; rw [heap_setCell_same _ g 5 _ _ _ h]; rfl
theorem dset6 {w : World} {g : Nat} {d : Dg} {co : Option Addr} {cn cp : Nat} (h : Dgb w g d co cn cp) (L : List Cc) (co' : Option Addr) (cn' cp' : Nat) : Dgb (w.setCell ⟨g, 6, none⟩ (.slice co' cn' cp')) g ⟨d.kd, d.ss, d.fr, d.to, d.mrk, d.fi, L, d.ak⟩ co' cn' cp' := by
  unfold Dgb; rw [heap_setCell_same _ g 6 _ _ _ h]; rfl
theorem dset7 {w : World} {g : Nat} {d : Dg} {co : Option Addr} {cn cp : Nat} (h : Dgb w g d co cn cp) (m : Int) : Dgb (w.setCell ⟨g, 7, none⟩ (.int .i64 m)) g ⟨d.kd, d.ss, d.fr, d.to, d.mrk, d.fi, d.cs, m⟩ co cn cp := by
  unfold Dgb; rw [heap_setCell_same _ g 7 _ _ _ h]; rfl
theorem Dgb.to {w w1 : World} {q p g : Nat} {d : Dg} {co : Option Addr} {cn cp : Nat} {ef : Addr} {s : Rs} (h : Dgb w g d co cn cp) (hn : ¬ RF q p g) (ht : Tz w w1 q p ef s) : Dgb w1 g d co cn cp := ht.f.kept h hn
/-- behind a store into a datagram's variable -/
theorem Tz.dput {w u u' : World} {q p g : Nat} {ef : Addr} {s : Rs} {d : Dg} {co : Option Addr} {cn cp : Nat} (h : Tz w u q p ef s) (hg : w.heap.size ≤ g) (hq : q < w.heap.size ∧ p < w.heap.size) (he : 0 < w.heap.size) (hb : Dgb u g d co cn cp) (hf : Fr (fun k => k = g) u u') : Tz w u' q p ef s :=
  ⟨h.r.put (fun e => by rcases e with e | e <;> omega) hb (by decide) (by omega) hf, h.f.trans hf (fun k hk e => by omega)⟩
theorem Dgb.other {u u' : World} {g g' : Nat} {d : Dg} {co : Option Addr} {cn cp : Nat} (h : Dgb u g d co cn cp) (hne : g ≠ g') (hf : Fr (fun k => k = g') u u') : Dgb u' g d co cn cp := hf.kept h hne
theorem setF (u : World) (g o : Nat) (v : Value) : Fr (fun k => k = g) u (u.setCell ⟨g, o, none⟩ v) := (Fr.refl _ u).setCell ⟨g, o, none⟩ _ (.inl rfl)
end Go.Proofs.YtaaongbdincimaaGreatDoor
