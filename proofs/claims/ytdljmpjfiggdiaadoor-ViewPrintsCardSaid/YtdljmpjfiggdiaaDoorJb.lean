/- Rows of movers, of shots, of points and of meets. -/
import Derived.Test.YtdljmpjfiggdiaaDoorJa
import Derived.Test.YtdljmpjfiggdiaaDoorGa
import Derived.Test.YtdljmpjfiggdiaaDoorZb
import Derived.Test.YtdljmpjfiggdiaaDoorK8
namespace Go.Proofs.YtdljmpjfiggdiaaDoor
open Go.RowKit
open Pu Gp Ap Vp Np Za Ka Ja
set_option maxRecDepth 100000

def KM : Kd Mv := ⟨fun m => (mcs m).toList, 13, zM, fun _ => rfl, fun m u hu => by
  simp at hu
  rcases hu with rfl | rfl | rfl | rfl | rfl | rfl | rfl | rfl | rfl | rfl | rfl | rfl | rfl <;> rfl, by decide⟩
def KS : Kd Sh := ⟨fun m => (scs m).toList, 8, zS, fun _ => rfl, fun m u hu => by
  simp at hu
  rcases hu with rfl | rfl | rfl | rfl | rfl | rfl | rfl | rfl <;> rfl, by decide⟩
def KT : Kd (Int × Int) := ⟨fun p => [.int .i64 p.1, .int .i64 p.2], 2, (0, 0), fun _ => rfl, fun m u hu => by
  simp at hu
  rcases hu with rfl | rfl <;> rfl, by decide⟩
theorem infoM : ∃ i, Tryd.prog.info? 52 = some i ∧ i.zero = some (.agg (KM.f KM.d).toArray) ∧ i.size = KM.k ∧ i.bytes = 104 := ⟨_, rfl, rfl, rfl, rfl⟩
theorem rdM {w : World} {B o n : Nat} {L : List Mv} (h : RdG KM w (some ⟨B, o, none⟩) n L) {i : Nat} (hi : i < n) : w.cell? ⟨B, o + i * 13, none⟩ = some (.int .i64 (mm L i).ax) ∧ w.cell? ⟨B, o + i * 13 + 1, none⟩ = some (.int .i64 (mm L i).ay) ∧ w.cell? ⟨B, o + i * 13 + 2, none⟩ = some (.int .i64 (mm L i).sx) ∧ w.cell? ⟨B, o + i * 13 + 3, none⟩ = some (.int .i64 (mm L i).sy) ∧ w.cell? ⟨B, o + i * 13 + 4, none⟩ = some (.int .i64 (mm L i).px) ∧ w.cell? ⟨B, o + i * 13 + 5, none⟩ = some (.int .i64 (mm L i).py) ∧ w.cell? ⟨B, o + i * 13 + 6, none⟩ = some (.int .i64 (mm L i).fc) ∧ w.cell? ⟨B, o + i * 13 + 7, none⟩ = some (.int .i64 (mm L i).hl) ∧ w.cell? ⟨B, o + i * 13 + 8, none⟩ = some (.int .i64 (mm L i).en) ∧ w.cell? ⟨B, o + i * 13 + 9, none⟩ = some (.bool (mm L i).sh) ∧ w.cell? ⟨B, o + i * 13 + 10, none⟩ = some (.int .i64 (mm L i).co) ∧ w.cell? ⟨B, o + i * 13 + 11, none⟩ = some (.int .i64 (mm L i).ou) ∧ w.cell? ⟨B, o + i * 13 + 12, none⟩ = some (.int .i64 (mm L i).sd) :=
  ⟨h.get hi 0 _ rfl, h.get hi 1 _ rfl, h.get hi 2 _ rfl, h.get hi 3 _ rfl, h.get hi 4 _ rfl, h.get hi 5 _ rfl, h.get hi 6 _ rfl, h.get hi 7 _ rfl, h.get hi 8 _ rfl, h.get hi 9 _ rfl, h.get hi 10 _ rfl, h.get hi 11 _ rfl, h.get hi 12 _ rfl⟩
theorem rdS {w : World} {B o n : Nat} {L : List Sh} (h : RdG KS w (some ⟨B, o, none⟩) n L) {i : Nat} (hi : i < n) : w.cell? ⟨B, o + i * 8, none⟩ = some (.int .i64 (ss L i).no) ∧ w.cell? ⟨B, o + i * 8 + 1, none⟩ = some (.int .i64 (ss L i).ow) ∧ w.cell? ⟨B, o + i * 8 + 2, none⟩ = some (.int .i64 (ss L i).pw) ∧ w.cell? ⟨B, o + i * 8 + 3, none⟩ = some (.int .i64 (ss L i).ax) ∧ w.cell? ⟨B, o + i * 8 + 4, none⟩ = some (.int .i64 (ss L i).ay) ∧ w.cell? ⟨B, o + i * 8 + 5, none⟩ = some (.int .i64 (ss L i).sx) ∧ w.cell? ⟨B, o + i * 8 + 6, none⟩ = some (.int .i64 (ss L i).sy) ∧ w.cell? ⟨B, o + i * 8 + 7, none⟩ = some (.int .i64 (ss L i).lf) :=
  ⟨h.get hi 0 _ rfl, h.get hi 1 _ rfl, h.get hi 2 _ rfl, h.get hi 3 _ rfl, h.get hi 4 _ rfl, h.get hi 5 _ rfl, h.get hi 6 _ rfl, h.get hi 7 _ rfl⟩
theorem rdP {w : World} {B o n : Nat} {L : List (Int × Int)} (h : RdG KT w (some ⟨B, o, none⟩) n L) {i : Nat} (hi : i < n) : w.cell? ⟨B, o + i * 2, none⟩ = some (.int .i64 (pp L i).1) ∧ w.cell? ⟨B, o + i * 2 + 1, none⟩ = some (.int .i64 (pp L i).2) :=
  ⟨h.get hi 0 _ rfl, h.get hi 1 _ rfl⟩
theorem owM {e : TypeId} {w : World} {B g n cap : Nat} {L : List Mv} (h : OwG KM e w B (.slice (some ⟨g, 0, none⟩) n cap) L) {i : Nat} (hi : i < L.length) : w.cell? ⟨g, i * 13, none⟩ = some (.int .i64 (mm L i).ax) ∧ w.cell? ⟨g, i * 13 + 1, none⟩ = some (.int .i64 (mm L i).ay) ∧ w.cell? ⟨g, i * 13 + 2, none⟩ = some (.int .i64 (mm L i).sx) ∧ w.cell? ⟨g, i * 13 + 3, none⟩ = some (.int .i64 (mm L i).sy) ∧ w.cell? ⟨g, i * 13 + 4, none⟩ = some (.int .i64 (mm L i).px) ∧ w.cell? ⟨g, i * 13 + 5, none⟩ = some (.int .i64 (mm L i).py) ∧ w.cell? ⟨g, i * 13 + 6, none⟩ = some (.int .i64 (mm L i).fc) ∧ w.cell? ⟨g, i * 13 + 7, none⟩ = some (.int .i64 (mm L i).hl) ∧ w.cell? ⟨g, i * 13 + 8, none⟩ = some (.int .i64 (mm L i).en) ∧ w.cell? ⟨g, i * 13 + 9, none⟩ = some (.bool (mm L i).sh) ∧ w.cell? ⟨g, i * 13 + 10, none⟩ = some (.int .i64 (mm L i).co) ∧ w.cell? ⟨g, i * 13 + 11, none⟩ = some (.int .i64 (mm L i).ou) ∧ w.cell? ⟨g, i * 13 + 12, none⟩ = some (.int .i64 (mm L i).sd) ∧ ∀ o, w.frozen? ⟨g, o, none⟩ = false :=
  ⟨h.get hi 0 _ rfl, h.get hi 1 _ rfl, h.get hi 2 _ rfl, h.get hi 3 _ rfl, h.get hi 4 _ rfl, h.get hi 5 _ rfl, h.get hi 6 _ rfl, h.get hi 7 _ rfl, h.get hi 8 _ rfl, h.get hi 9 _ rfl, h.get hi 10 _ rfl, h.get hi 11 _ rfl, h.get hi 12 _ rfl, h.frozen⟩
theorem owT {e : TypeId} {w : World} {B g n cap : Nat} {L : List (Int × Int)} (h : OwG KT e w B (.slice (some ⟨g, 0, none⟩) n cap) L) {i : Nat} (hi : i < L.length) : w.cell? ⟨g, i * 2, none⟩ = some (.int .i64 (pp L i).1) ∧ w.cell? ⟨g, i * 2 + 1, none⟩ = some (.int .i64 (pp L i).2) ∧ ∀ o, w.frozen? ⟨g, o, none⟩ = false :=
  ⟨h.get hi 0 _ rfl, h.get hi 1 _ rfl, h.frozen⟩
end Go.Proofs.YtdljmpjfiggdiaaDoor
