/- The honest end goes on, lays perhaps, and makes a Turn. -/
import Derived.Test.YtcmgghfjakphmaaLky
import Derived.Test.YtcmgghfjakphmaaIo
namespace Go.Proofs.Ytcmgghfjakphmaa
open Go.RowKit
open Wp Vp Lp
set_option maxRecDepth 100000
set_option linter.unusedVariables false
set_option linter.unusedSimpArgs false

theorem nw_cc {o : Oper} {ρ : Operand → Value} (ho : o.op = .alloc 47) (u : World) : (execOp ρ o).run Try.prog u = .ok (.value (.pointer (some ⟨u.heap.size, 0, none⟩))) (u.alloc (.cells (kmc zC) 47 (0, 0))) := by
  unfold execOp
  rw [ho]
  go_simp
  try rfl
abbrev setCc (w : World) (g : Nat) (x : Cc) : World := ((((((w.setCell ⟨g, 0, none⟩ (.int .i64 x.fr)).setCell ⟨g, 1, none⟩ (.int .i64 x.pe)).setCell ⟨g, 2, none⟩ (.int .i64 x.sq)).setCell ⟨g, 3, none⟩ (.int .i64 x.v)).setCell ⟨g, 4, none⟩ (.int .i64 x.a)).setCell ⟨g, 5, none⟩ (.int .i64 x.b)).setCell ⟨g, 6, none⟩ (.int .i64 x.c)
theorem Ccb.set {w : World} {g : Nat} {y : Cc} (h : Ccb w g y) (x : Cc) : Ccb (setCc w g x) g x := by
  have := heap_setCells g 47 (kmc x).toList 0 (kmc y) w h (by simp)
  exact this
theorem setCc_fr {F : Nat → Prop} {x w : World} (h : Fr F x w) (g : Nat) (y : Cc) (hb : F g ∨ x.heap.size ≤ g) : Fr F x (setCc w g y) := ((((((h.setCell _ _ hb).setCell _ _ hb).setCell _ _ hb).setCell _ _ hb).setCell _ _ hb).setCell _ _ hb).setCell _ _ hb
theorem st_cc {o : Oper} {ρ : Operand → Value} {a b : Operand} {c : Cc} {u : World} {g : Nat} (ho : o.op = .store 47 a b) (ha : ρ a = .pointer (some ⟨g, 0, none⟩)) (hb : ρ b = kmv c) (h : u.heap[g]? = some (.cells (kmc zC) 47 (0, 0))) :
    ∃ u', (execOp ρ o).run Try.prog u = .ok .skip u' ∧ u'.heap[g]? = some (.cells (kmc c) 47 (0, 0)) ∧ Fr (fun i => i = g) u u' := by
  have hd : Ccb u g zC := h
  obtain ⟨d0, d1, d2, d3, d4, d5, d6, df⟩ := hd.cells
  refine ⟨setCc u g c, ?_, hd.set c, setCc_fr (Fr.refl _ _) _ _ (.inl rfl)⟩
  unfold execOp
  rw [ho]
  simp only [ha, hb]
  go_simp
theorem bs_dg {o : Oper} {ρ : Operand → Value} {x : Operand} {d : Dg} {co : Option Addr} {cn cp : Nat} (ho : o.op = .buildSlice 30 1 #[(0, x)]) (hx : ρ x = dgv d co cn cp) (u : World) : (execOp ρ o).run Try.prog u = .ok (.value (.slice (some ⟨u.heap.size, 0, none⟩) 1 1)) (u.alloc (.cells (dgc d co cn cp) 51)) := by
  unfold execOp
  rw [ho]
  simp only [List.map_toArray, List.map_cons, List.map_nil, hx]
  go_simp
  try rfl
/-- a step -/
structure Stq where
  br : Bool
  n : Int
  on : Int
  fa : Int
  v : Int
  a : Int
  b : Int
  c : Int
abbrev stc (s : Stq) : Array Value := #[.bool s.br, .int .i64 s.n, .int .i64 s.on, .int .i64 s.fa, .int .i64 s.v, .int .i64 s.a, .int .i64 s.b, .int .i64 s.c]
def In64 (x : Int) : Prop := -9223372036854775808 ≤ x ∧ x ≤ 9223372036854775807
/-- what the two ends are, wherever they lie -/
def HoX (w0 w : World) (hb : Nat) (pb : Nat) (t : Int) : Prop := ∃ H L m S g mq mt, HoM w0 w hb H L L m S g g mq mt ∧ H.pb = pb ∧ m ≤ t
theorem say_ok (a : Int) (h : 0 ≤ a ∧ a < 256) : chkO 7 a 0 0 = 0 := by
  have : ∀ n : Fin 256, chkO 7 (n.val : Int) 0 0 = 0 := by decide
  have h2 := this ⟨a.toNat, by omega⟩
  have h3 : ((a.toNat : Nat) : Int) = a := by omega
  simpa [h3] using h2
end Go.Proofs.Ytcmgghfjakphmaa
