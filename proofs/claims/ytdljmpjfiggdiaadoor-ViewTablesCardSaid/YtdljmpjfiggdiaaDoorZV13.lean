/- Parts of the proof, laid end to end. -/
import Derived.Test.YtdljmpjfiggdiaaDoorZV11
import Derived.Test.YtdljmpjfiggdiaaDoorZV04
import Derived.Test.YtdljmpjfiggdiaaDoorZV12
import Derived.Test.YtdljmpjfiggdiaaDoorZV01
namespace Go.Proofs.YtdljmpjfiggdiaaDoor
open Go.RowKit
open Pu Gp Ap Vp Np Za Ka Ja Ea Ha
set_option maxRecDepth 100000
def KQ : Kd Pk := ⟨fun p => [.int .i64 p.no, .int .i64 p.sp, .int .i64 p.kd], 3, zK, fun _ => rfl, fun m u hu => by
 simp at hu
 rcases hu with rfl | rfl | rfl <;> rfl, by decide⟩
theorem rdQ {w : World} {B o n : Nat} {L : List Pk} (h : RdG KQ w (some ⟨B, o, none⟩) n L) {i : Nat} (hi : i < n) : w.cell? ⟨B, o + i * 3, none⟩ = some (.int .i64 (pk L i).no) /\ w.cell? ⟨B, o + i * 3 + 1, none⟩ = some (.int .i64 (pk L i).sp) /\ w.cell? ⟨B, o + i * 3 + 2, none⟩ = some (.int .i64 (pk L i).kd) :=
 ⟨h.get hi 0 _ rfl, h.get hi 1 _ rfl, h.get hi 2 _ rfl⟩
theorem rdK_ofQ {w : World} {ao : Option Addr} {n : Nat} {L : List Pk} (h : RdG KQ w ao n L) : RdK w ao n L := by
 refine ⟨h.1, h.2.1, ?_⟩
 rcases h.2.2 with h0 | ⟨B, o, e, hc⟩
 ·exact .inl h0
 ·exact .inr ⟨B, o, e, fun i hi => ⟨hc i hi 0 _ rfl, hc i hi 1 _ rfl, hc i hi 2 _ rfl⟩⟩
theorem neq_sv_f (s : Sh) (w : World) : (binOp .neq 153 (sv s) (sv s)).run Tryd.prog w = .ok (.bool false) w := by
 have h := eql_sv_t s w
 rw [run_eql_struct] at h
 rw [run_neq_struct]
 revert h
 generalize (Op.equalIn 10000 153 (sv s) (sv s)).run Tryd.prog w = r
 intro h
 cases r with
 | ok b w' =>
  simp [Result.andThen] at h ⊢
  obtain ⟨h1, h2⟩ := h
  subst h1 h2
  exact ⟨rfl, rfl⟩
 | _ => simp [Result.andThen] at h
abbrev wdcs (fr nx : Int) (a b c d : Value) : Array Value := #[.int .i64 fr, a, b, c, d, .int .i64 nx]
def Wdb (w : World) (g : Nat) (fr nx : Int) (a b c d : Value) : Prop := w.heap[g]? = some (.cells (wdcs fr nx a b c d) 27 (0, 0))
theorem Wdb.still {w w' : World} {g : Nat} {fr nx : Int} {a b c d : Value} (h : Wdb w g fr nx a b c d) (hs : Still w w') : Wdb w' g fr nx a b c d := hs.kept_still h
theorem Wdb.cells {w : World} {g : Nat} {fr nx : Int} {a b c d : Value} (h : Wdb w g fr nx a b c d) : w.cell? ⟨g, 0, none⟩ = some (.int .i64 fr) /\ w.cell? ⟨g, 1, none⟩ = some a /\ w.cell? ⟨g, 2, none⟩ = some b /\ w.cell? ⟨g, 3, none⟩ = some c /\ w.cell? ⟨g, 4, none⟩ = some d /\ w.cell? ⟨g, 5, none⟩ = some (.int .i64 nx) /\ ∀ o, w.frozen? ⟨g, o, none⟩ = false := by
 refine ⟨?_, ?_, ?_, ?_, ?_, ?_, fun o => frozen_of_row w g o _ _ h⟩ <;> (rw [cell_of_row _ _ _ _ _ _ h]; rfl)
abbrev newWd (w : World) (fr nx : Int) (a b c d : Value) : World := w.alloc (.cells (wdcs fr nx a b c d) 27)
theorem newWd_wb (w : World) (fr nx : Int) (a b c d : Value) : Wdb (newWd w fr nx a b c d) w.heap.size fr nx a b c d := heap_alloc_new w _
def Sl {α : Type} (K : Kd α) (w : World) (v : Value) (L : List α) : Prop := ∃ ao cap, v = .slice ao L.length cap /\ L.length <= cap /\ (ao = none -> cap = 0) /\ RdG K w ao L.length L
theorem Sl.still {α : Type} {K : Kd α} {w w' : World} {v : Value} {L : List α} (h : Sl K w v L) (hs : Still w w') : Sl K w' v L := by
 obtain ⟨ao, cap, e, h1, h2, h3⟩ := h
 exact ⟨ao, cap, e, h1, h2, h3.still hs⟩
def RdW (w : World) (v : Value) (W : Wd) : Prop := ∃ a b c d, v = .agg (wdcs W.fr W.nx a b c d) /\ Sl KM w a W.ms /\ Sl KC w b W.cs /\ Sl KS w c W.hs /\ Sl KQ w d W.ks
theorem RdW.still {w w' : World} {v : Value} {W : Wd} (h : RdW w v W) (hs : Still w w') : RdW w' v W := by
 obtain ⟨a, b, c, d, e, h1, h2, h3, h4⟩ := h
 exact ⟨a, b, c, d, e, h1.still hs, h2.still hs, h3.still hs, h4.still hs⟩
end Go.Proofs.YtdljmpjfiggdiaaDoor
namespace Go.Proofs.YtdljmpjfiggdiaaDoor
open Go.RowKit
open Pu Gp Ap Vp Np Za Ka Ja Ea Ha
set_option maxRecDepth 100000
theorem st_mv {o : Oper} {ρ : Operand -> Value} {x y : Operand} {u : World} {g : Nat} {m : Mv} (ho : o.op = .store 52 x y) (hx : ρ x = .pointer (some ⟨g, 0, none⟩)) (hy : ρ y = mv m) (hh : u.heap[g]? = some (.cells (mcs zM) 52 (0, 0))) :
  ∃ u', (execOp ρ o).run Tryd.prog u = .ok .skip u' /\ u'.heap[g]? = some (.cells (mcs m) 52 (0, 0)) /\ Fr (fun i => i = g) u u' := by
 have hb : Mb u g zM := hh
 obtain ⟨d0, d1, d2, d3, d4, d5, d6, d7, d8, d9, d10, d11, d12, df⟩ := hb.cells
 have hput := hb.put m.ax m.ay m.sx m.sy m.px m.py m.fc m.hl m.en m.sh m.co m.ou m.sd
 refine ⟨(((((((((((((u.setCell ⟨g, 0, none⟩ (.int .i64 m.ax)).setCell ⟨g, 1, none⟩ (.int .i64 m.ay)).setCell ⟨g, 2, none⟩ (.int .i64 m.sx)).setCell ⟨g, 3, none⟩ (.int .i64 m.sy)).setCell ⟨g, 4, none⟩ (.int .i64 m.px)).setCell ⟨g, 5, none⟩ (.int .i64 m.py)).setCell ⟨g, 6, none⟩ (.int .i64 m.fc)).setCell ⟨g, 7, none⟩ (.int .i64 m.hl)).setCell ⟨g, 8, none⟩ (.int .i64 m.en)).setCell ⟨g, 9, none⟩ (.bool m.sh)).setCell ⟨g, 10, none⟩ (.int .i64 m.co)).setCell ⟨g, 11, none⟩ (.int .i64 m.ou)).setCell ⟨g, 12, none⟩ (.int .i64 m.sd)), ?_, hput, ((((((((((((((Fr.refl (fun i => i = g) u).setCell ⟨g, 0, none⟩ (.int .i64 m.ax) (.inl rfl)).setCell ⟨g, 1, none⟩ (.int .i64 m.ay) (.inl rfl)).setCell ⟨g, 2, none⟩ (.int .i64 m.sx) (.inl rfl)).setCell ⟨g, 3, none⟩ (.int .i64 m.sy) (.inl rfl)).setCell ⟨g, 4, none⟩ (.int .i64 m.px) (.inl rfl)).setCell ⟨g, 5, none⟩ (.int .i64 m.py) (.inl rfl)).setCell ⟨g, 6, none⟩ (.int .i64 m.fc) (.inl rfl)).setCell ⟨g, 7, none⟩ (.int .i64 m.hl) (.inl rfl)).setCell ⟨g, 8, none⟩ (.int .i64 m.en) (.inl rfl)).setCell ⟨g, 9, none⟩ (.bool m.sh) (.inl rfl)).setCell ⟨g, 10, none⟩ (.int .i64 m.co) (.inl rfl)).setCell ⟨g, 11, none⟩ (.int .i64 m.ou) (.inl rfl)).setCell ⟨g, 12, none⟩ (.int .i64 m.sd) (.inl rfl))⟩
 clear hput hb hh
 unfold execOp
 rw [ho]
 simp only [hx, hy]
 go_simp
theorem nw_mv {o : Oper} {ρ : Operand -> Value} (ho : o.op = .alloc 52) (u : World) : (execOp ρ o).run Tryd.prog u = .ok (.value (.pointer (some ⟨u.heap.size, 0, none⟩))) (u.alloc (.cells (mcs zM) 52 (0, 0))) := by
 unfold execOp
 rw [ho]
 go_simp
 try rfl
theorem st_sv {o : Oper} {ρ : Operand -> Value} {x y : Operand} {u : World} {g : Nat} {m : Sh} (ho : o.op = .store 153 x y) (hx : ρ x = .pointer (some ⟨g, 0, none⟩)) (hy : ρ y = sv m) (hh : u.heap[g]? = some (.cells (scs zS) 153 (0, 0))) :
  ∃ u', (execOp ρ o).run Tryd.prog u = .ok .skip u' /\ u'.heap[g]? = some (.cells (scs m) 153 (0, 0)) /\ Fr (fun i => i = g) u u' := by
 have hb : Sb u g zS := hh
 obtain ⟨d0, d1, d2, d3, d4, d5, d6, d7, df⟩ := hb.cells
 have hput := hb.put m.no m.ow m.pw m.ax m.ay m.sx m.sy m.lf
 refine ⟨((((((((u.setCell ⟨g, 0, none⟩ (.int .i64 m.no)).setCell ⟨g, 1, none⟩ (.int .i64 m.ow)).setCell ⟨g, 2, none⟩ (.int .i64 m.pw)).setCell ⟨g, 3, none⟩ (.int .i64 m.ax)).setCell ⟨g, 4, none⟩ (.int .i64 m.ay)).setCell ⟨g, 5, none⟩ (.int .i64 m.sx)).setCell ⟨g, 6, none⟩ (.int .i64 m.sy)).setCell ⟨g, 7, none⟩ (.int .i64 m.lf)), ?_, hput, (((((((((Fr.refl (fun i => i = g) u).setCell ⟨g, 0, none⟩ (.int .i64 m.no) (.inl rfl)).setCell ⟨g, 1, none⟩ (.int .i64 m.ow) (.inl rfl)).setCell ⟨g, 2, none⟩ (.int .i64 m.pw) (.inl rfl)).setCell ⟨g, 3, none⟩ (.int .i64 m.ax) (.inl rfl)).setCell ⟨g, 4, none⟩ (.int .i64 m.ay) (.inl rfl)).setCell ⟨g, 5, none⟩ (.int .i64 m.sx) (.inl rfl)).setCell ⟨g, 6, none⟩ (.int .i64 m.sy) (.inl rfl)).setCell ⟨g, 7, none⟩ (.int .i64 m.lf) (.inl rfl))⟩
 clear hput hb hh
 unfold execOp
 rw [ho]
 simp only [hx, hy]
 go_simp
theorem nw_sv {o : Oper} {ρ : Operand -> Value} (ho : o.op = .alloc 153) (u : World) : (execOp ρ o).run Tryd.prog u = .ok (.value (.pointer (some ⟨u.heap.size, 0, none⟩))) (u.alloc (.cells (scs zS) 153 (0, 0))) := by
 unfold execOp
 rw [ho]
 go_simp
 try rfl
theorem st_cv {o : Oper} {ρ : Operand -> Value} {x y : Operand} {u : World} {g : Nat} {m : Scr} (ho : o.op = .store 54 x y) (hx : ρ x = .pointer (some ⟨g, 0, none⟩)) (hy : ρ y = cv m) (hh : u.heap[g]? = some (.cells (ccs zC) 54 (0, 0))) :
  ∃ u', (execOp ρ o).run Tryd.prog u = .ok .skip u' /\ u'.heap[g]? = some (.cells (ccs m) 54 (0, 0)) /\ Fr (fun i => i = g) u u' := by
 have hb : Cb u g zC := hh
 obtain ⟨d0, d1, d2, d3, df⟩ := hb.cells
 have hput := hb.put m.p m.h m.o m.k
 refine ⟨((((u.setCell ⟨g, 0, none⟩ (.int .i64 m.p)).setCell ⟨g, 1, none⟩ (.int .i64 m.h)).setCell ⟨g, 2, none⟩ (.int .i64 m.o)).setCell ⟨g, 3, none⟩ (.int .i64 m.k)), ?_, hput, (((((Fr.refl (fun i => i = g) u).setCell ⟨g, 0, none⟩ (.int .i64 m.p) (.inl rfl)).setCell ⟨g, 1, none⟩ (.int .i64 m.h) (.inl rfl)).setCell ⟨g, 2, none⟩ (.int .i64 m.o) (.inl rfl)).setCell ⟨g, 3, none⟩ (.int .i64 m.k) (.inl rfl))⟩
 clear hput hb hh
 unfold execOp
 rw [ho]
 simp only [hx, hy]
 go_simp
theorem nw_cv {o : Oper} {ρ : Operand -> Value} (ho : o.op = .alloc 54) (u : World) : (execOp ρ o).run Tryd.prog u = .ok (.value (.pointer (some ⟨u.heap.size, 0, none⟩))) (u.alloc (.cells (ccs zC) 54 (0, 0))) := by
 unfold execOp
 rw [ho]
 go_simp
 try rfl
theorem st_kv {o : Oper} {ρ : Operand -> Value} {x y : Operand} {u : World} {g : Nat} {m : Pk} (ho : o.op = .store 155 x y) (hx : ρ x = .pointer (some ⟨g, 0, none⟩)) (hy : ρ y = kv m) (hh : u.heap[g]? = some (.cells (kcs zK) 155 (0, 0))) :
  ∃ u', (execOp ρ o).run Tryd.prog u = .ok .skip u' /\ u'.heap[g]? = some (.cells (kcs m) 155 (0, 0)) /\ Fr (fun i => i = g) u u' := by
 have hb : Kb u g zK := hh
 obtain ⟨d0, d1, d2, df⟩ := hb.cells
 have hput := hb.put m.no m.sp m.kd
 refine ⟨(((u.setCell ⟨g, 0, none⟩ (.int .i64 m.no)).setCell ⟨g, 1, none⟩ (.int .i64 m.sp)).setCell ⟨g, 2, none⟩ (.int .i64 m.kd)), ?_, hput, ((((Fr.refl (fun i => i = g) u).setCell ⟨g, 0, none⟩ (.int .i64 m.no) (.inl rfl)).setCell ⟨g, 1, none⟩ (.int .i64 m.sp) (.inl rfl)).setCell ⟨g, 2, none⟩ (.int .i64 m.kd) (.inl rfl))⟩
 clear hput hb hh
 unfold execOp
 rw [ho]
 simp only [hx, hy]
 go_simp
theorem nw_kv {o : Oper} {ρ : Operand -> Value} (ho : o.op = .alloc 155) (u : World) : (execOp ρ o).run Tryd.prog u = .ok (.value (.pointer (some ⟨u.heap.size, 0, none⟩))) (u.alloc (.cells (kcs zK) 155 (0, 0))) := by
 unfold execOp
 rw [ho]
 go_simp
 try rfl
end Go.Proofs.YtdljmpjfiggdiaaDoor
