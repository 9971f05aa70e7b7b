/- Parts of the proof, laid end to end. -/
import Derived.KernelRfl
import Derived.Tactics2
import Derived.Test.YtnbofjaecchnaaaDoorProg
import Derived.Test.YtnbofjaecchnaaaDoorZR02
import Derived.Laws.ResultCell
import Derived.Deep.RegionWith
import Derived.BigRegion
import Derived.OwnWalk
import Derived.Lib.Strings
import Derived.ProofKit
import Derived.Shelf.Abstract
set_option maxRecDepth 100000
namespace Go.Proofs.YtnbofjaecchnaaaDoor.Vp
def nmL : List ByteArray := [⟨#[115, 116, 101, 101, 114]⟩, ⟨#[104, 97, 108, 116]⟩, ⟨#[97, 105, 109]⟩, ⟨#[102, 105, 114, 101]⟩, ⟨#[115, 104, 105, 101, 108, 100]⟩, ⟨#[100, 97, 115, 104]⟩, ⟨#[115, 97, 121]⟩]
def fsL : List ByteArray := [⟨#[120]⟩, ⟨#[]⟩, ⟨#[116, 111]⟩, ⟨#[112, 111, 119, 101, 114]⟩, ⟨#[111, 110]⟩, ⟨#[116, 111]⟩, ⟨#[119, 104, 97, 116]⟩]
def loL : List Int := [-8, 0, 0, 1, 0, 0, 0]
def hiL : List Int := [8, 0, 15, 3, 1, 15, 255]
def nmB (i : Nat) : ByteArray := nmL.getD i ByteArray.empty
def fsB (i : Nat) : ByteArray := fsL.getD i ByteArray.empty
def lo (i : Nat) : Int := loL.getD i 0
def hi (i : Nat) : Int := hiL.getD i 0
def isV (v : Int) : Bool := decide (1 <= v) && decide (v <= 7)
def nmV (v : Int) : ByteArray := if isV v then nmB (v - 1).toNat else ByteArray.empty
def opV (v : Int) : List (ByteArray × Int × Int) :=
 if isV v && v != 2 then (fsB (v - 1).toNat, lo (v - 1).toNat, hi (v - 1).toNat) :: (if v = 1 then [(⟨#[121]⟩, -8, 8)] else []) else []
def okO (v a b c : Int) : Bool := decide (lo (v - 1).toNat <= a) && decide (a <= hi (v - 1).toNat) && (if v = 1 then decide (-8 <= b) && decide (b <= 8) else decide (b = 0)) && decide (c = 0)
def chkO (v a b c : Int) : Int := if isV v then (if okO v a b c then 0 else 71) else 70
theorem isV_iff {v : Int} : isV v = true ↔ 1 <= v /\ v <= 7 := by unfold isV; simp
theorem isV_no {v : Int} : isV v = false ↔ v < 1 \/ 7 < v := by
 unfold isV
 simp
 omega
theorem verbs {v : Int} (h : isV v = true) : v = 1 \/ v = 2 \/ v = 3 \/ v = 4 \/ v = 5 \/ v = 6 \/ v = 7 := by
 have := isV_iff.1 h
 omega
def dg (n : Nat) : UInt8 := UInt8.ofNat (48 + n % 10)
def numN (n : Nat) : List UInt8 := if n < 10 then [dg n] else if n < 100 then [dg (n / 10), dg n] else [dg (n / 100), dg (n / 10), dg n]
def numB (n : Int) : ByteArray := ⟨(if n < 0 then 45 :: numN (-n).toNat else numN n.toNat).toArray⟩
def prn (v a b : Int) : ByteArray := nmV v ++ (if v = 2 then ByteArray.empty else (⟨#[32]⟩ : ByteArray) ++ numB a) ++ (if v = 1 then (⟨#[32]⟩ : ByteArray) ++ numB b else ByteArray.empty)
def prnO (v a b c : Int) : ByteArray := if chkO v a b c = 0 then prn v a b else ByteArray.empty
def allO : List (Int × Int × Int) :=
 ((List.range 17).flatMap fun (i : Nat) => (List.range 17).map fun (j : Nat) => ((1 : Int), (i : Int) - 8, (j : Int) - 8)) ++ [(2, 0, 0)] ++ ((List.range 16).map fun (i : Nat) => ((3 : Int), (i : Int), (0 : Int))) ++
  ((List.range 3).map fun (i : Nat) => ((4 : Int), (i : Int) + 1, (0 : Int))) ++ ((List.range 2).map fun (i : Nat) => ((5 : Int), (i : Int), (0 : Int))) ++ ((List.range 16).map fun (i : Nat) => ((6 : Int), (i : Int), (0 : Int))) ++ ((List.range 256).map fun (i : Nat) => ((7 : Int), (i : Int), (0 : Int)))
theorem mem_all {v a b c : Int} (h : chkO v a b c = 0) : (v, a, b) ∈ allO /\ c = 0 := by
 unfold chkO at h
 split at h
 ·rename_i hv
  split at h
  ·rename_i ho
   unfold okO at ho
   simp only [Bool.and_eq_true, decide_eq_true_eq] at ho
   obtain ⟨⟨⟨h1, h2⟩, h3⟩, h4⟩ := ho
   refine ⟨?_, h4⟩
   unfold allO
   simp only [List.mem_append]
   rcases verbs hv with rfl | rfl | rfl | rfl | rfl | rfl | rfl
   ·simp [lo, hi, loL, hiL] at h1 h2 h3
    left; left; left; left; left; left
    exact List.mem_flatMap.2 ⟨(a + 8).toNat, List.mem_range.2 (by omega), List.mem_map.2 ⟨(b + 8).toNat, List.mem_range.2 (by omega), by simp; omega⟩⟩
   ·simp [lo, hi, loL, hiL] at h1 h2 h3
    left; left; left; left; left; right
    rw [show a = 0 by omega, h3]
    exact List.mem_singleton.2 rfl
   ·simp [lo, hi, loL, hiL] at h1 h2 h3
    left; left; left; left; right
    exact List.mem_map.2 ⟨a.toNat, List.mem_range.2 (by omega), by simp; omega⟩
   ·simp [lo, hi, loL, hiL] at h1 h2 h3
    left; left; left; right
    exact List.mem_map.2 ⟨(a - 1).toNat, List.mem_range.2 (by omega), by simp; omega⟩
   ·simp [lo, hi, loL, hiL] at h1 h2 h3
    left; left; right
    exact List.mem_map.2 ⟨a.toNat, List.mem_range.2 (by omega), by simp; omega⟩
   ·simp [lo, hi, loL, hiL] at h1 h2 h3
    left; right
    exact List.mem_map.2 ⟨a.toNat, List.mem_range.2 (by omega), by simp; omega⟩
   ·simp [lo, hi, loL, hiL] at h1 h2 h3
    right
    exact List.mem_map.2 ⟨a.toNat, List.mem_range.2 (by omega), by simp; omega⟩
  ·cases h
 ·cases h
def cod (b : ByteArray) : Nat := b.data.toList.foldl (fun n x => n * 256 + x.toNat) 1
def none? : List Nat -> Bool
 | [] => true
 | x :: l => l.all (fun y => !Nat.beq x y) && none? l
theorem none_inj {α : Type} {f : α -> Nat} : ∀ {l : List α}, none? (l.map f) = true -> ∀ x ∈ l, ∀ y ∈ l, f x = f y -> x = y
 | [], _, x, h, _, _, _ => by cases h
 | z :: l, h, x, hx, y, hy, e => by
  rw [List.map_cons, none?, Bool.and_eq_true] at h
  have k : ∀ w ∈ l, f z ≠ f w := fun w hw e => by
   have := List.all_eq_true.1 h.1 (f w) (List.mem_map.2 ⟨w, hw, rfl⟩)
   rw [e] at this
   simp at this
  rcases List.mem_cons.1 hx with rfl | hx2
  ·rcases List.mem_cons.1 hy with rfl | hy2
   ·rfl
   ·exact absurd e (k y hy2)
  ·rcases List.mem_cons.1 hy with rfl | hy2
   ·exact absurd e.symm (k x hx2)
   ·exact none_inj h.2 x hx2 y hy2 e
theorem all_unlike : none? (allO.map fun o => cod (prn o.1 o.2.1 o.2.2)) = true := by kernel_rfl
theorem prn_inj {v a b v' a' b' : Int} (h : (v, a, b) ∈ allO) (h' : (v', a', b') ∈ allO) (e : prn v a b = prn v' a' b') : v = v' /\ a = a' /\ b = b' := by
 have := none_inj (f := fun o : Int × Int × Int => cod (prn o.1 o.2.1 o.2.2)) all_unlike _ h _ h' (by show cod (prn v a b) = cod (prn v' a' b'); rw [e])
 cases this
 exact ⟨rfl, rfl, rfl⟩
theorem prnO_inj {v a b c v' a' b' c' : Int} (h : chkO v a b c = 0) (h' : chkO v' a' b' c' = 0) (e : prn v a b = prn v' a' b') : v = v' /\ a = a' /\ b = b' /\ c = c' := by
 obtain ⟨m, rfl⟩ := mem_all h
 obtain ⟨m', rfl⟩ := mem_all h'
 obtain ⟨e1, e2, e3⟩ := prn_inj m m' e
 exact ⟨e1, e2, e3, rfl⟩
end Go.Proofs.YtnbofjaecchnaaaDoor.Vp
namespace Go.Proofs.YtnbofjaecchnaaaDoor
open Go.RowKit
open Vp
abbrev od (v a b c : Int) : Value := .agg #[.int .i64 v, .int .i64 a, .int .i64 b, .int .i64 c]
def Orb (w : World) (g : Nat) (v a b c : Int) : Prop := w.heap[g]? = some (.cells #[.int .i64 v, .int .i64 a, .int .i64 b, .int .i64 c] 34 (0, 0))
theorem Orb.still {w w' : World} {g : Nat} {v a b c : Int} (h : Orb w g v a b c) (hs : Still w w') : Orb w' g v a b c := hs.kept_still h
theorem Orb.cells {w : World} {g : Nat} {v a b c : Int} (h : Orb w g v a b c) :
  w.cell? ⟨g, 0, none⟩ = some (.int .i64 v) /\ w.cell? ⟨g, 1, none⟩ = some (.int .i64 a) /\ w.cell? ⟨g, 2, none⟩ = some (.int .i64 b) /\ w.cell? ⟨g, 3, none⟩ = some (.int .i64 c) /\ ∀ o, w.frozen? ⟨g, o, none⟩ = false := by
 refine ⟨?_, ?_, ?_, ?_, fun o => frozen_of_row w g o _ _ h⟩ <;> (rw [cell_of_row _ _ _ _ _ _ h]; rfl)
abbrev newO (w : World) (v a b c : Int) : World := w.alloc (.cells #[.int .i64 v, .int .i64 a, .int .i64 b, .int .i64 c] 34)
theorem newO_orb (w : World) (v a b c : Int) : Orb (newO w v a b c) w.heap.size v a b c := heap_alloc_new w _
abbrev setO (w : World) (g : Nat) (v a b c : Int) : World := (((w.setCell ⟨g, 0, none⟩ (.int .i64 v)).setCell ⟨g, 1, none⟩ (.int .i64 a)).setCell ⟨g, 2, none⟩ (.int .i64 b)).setCell ⟨g, 3, none⟩ (.int .i64 c)
theorem Orb.set {w : World} {g : Nat} {v a b c : Int} (h : Orb w g v a b c) (v' a' b' c' : Int) : Orb (setO w g v' a' b' c') g v' a' b' c' := by
 unfold Orb
 have h1 := heap_setCell_same w g 0 _ _ (.int .i64 v') h
 have h2 := heap_setCell_same _ g 1 _ _ (.int .i64 a') h1
 have h3 := heap_setCell_same _ g 2 _ _ (.int .i64 b') h2
 have h4 := heap_setCell_same _ g 3 _ _ (.int .i64 c') h3
 rw [h4]; rfl
theorem setO_fr {F : Nat -> Prop} {x w : World} (h : Fr F x w) (g : Nat) (v a b c : Int) (hb : F g \/ x.heap.size <= g) : Fr F x (setO w g v a b c) := (((h.setCell _ _ hb).setCell _ _ hb).setCell _ _ hb).setCell _ _ hb
theorem load_or (w : World) (g : Nat) (v a b c : Int) (c0 : w.cell? ⟨g, 0, none⟩ = some (.int .i64 v)) (c1 : w.cell? ⟨g, 1, none⟩ = some (.int .i64 a)) (c2 : w.cell? ⟨g, 2, none⟩ = some (.int .i64 b)) (c3 : w.cell? ⟨g, 3, none⟩ = some (.int .i64 c)) :
  (loadVar 34 ⟨g, 0, none⟩).run Tryd.prog w = .ok (od v a b c) w := by
 go_simp
theorem Orb.rest {fn : Func} {p q : Tmp} {w : World} {g : Nat} {v a b c : Int} (hb : Orb w g v a b c) (h : fn.results = #[.cell p 34, .tmp q]) (tmps : Array Value) (t : Value) (hp : tmps.getD p undef = .pointer (some ⟨g, 0, none⟩)) (hq : tmps.getD q undef = t) :
  (results fn tmps).run Tryd.prog w = .ok (.tuple #[od v a b c, t]) w := by
 rw [results_cell_tmp h, hp, hq]
 simp [asAddr, Result.andThen, load_or w g v a b c hb.cells.1 hb.cells.2.1 hb.cells.2.2.1 hb.cells.2.2.2.1]
def opsOf (ps : List (ByteArray × Int × Int)) : List Value := ps.flatMap fun p => [.string p.1, .int .i64 p.2.1, .int .i64 p.2.2]
theorem opsOf_len (ps : List (ByteArray × Int × Int)) : (opsOf ps).length = ps.length * 3 := by
 induction ps with
 | nil => rfl
 | cons p l ih => simp only [opsOf, List.flatMap_cons, List.length_append, List.length_cons, List.length_nil] at ih ⊢; omega
theorem opsOf_app (ps qs : List (ByteArray × Int × Int)) : opsOf (ps ++ qs) = opsOf ps ++ opsOf qs := by simp [opsOf]
theorem opsOf_one (ps : List (ByteArray × Int × Int)) : ∀ u ∈ opsOf ps, u.oneCell' = true := by
 intro u hu
 simp only [opsOf, List.mem_flatMap] at hu
 obtain ⟨p, _, hp⟩ := hu
 simp at hp
 rcases hp with rfl | rfl | rfl <;> rfl
theorem opsOf_get : ∀ (ps : List (ByteArray × Int × Int)) (j : Nat) (h : j < ps.length), (opsOf ps)[j * 3]? = some (.string (ps[j]).1) /\ (opsOf ps)[j * 3 + 1]? = some (.int .i64 (ps[j]).2.1) /\ (opsOf ps)[j * 3 + 2]? = some (.int .i64 (ps[j]).2.2)
 | [], j, h => by simp at h
 | p :: l, 0, h => by simp [opsOf]
 | p :: l, j + 1, h => by
  have ih := opsOf_get l j (by simpa using h)
  have e : opsOf (p :: l) = [.string p.1, .int .i64 p.2.1, .int .i64 p.2.2] ++ opsOf l := by simp [opsOf]
  rw [e]
  rw [List.getElem?_append_right (by simp; omega), List.getElem?_append_right (by simp; omega), List.getElem?_append_right (by simp; omega)]
  simp only [List.length_cons, List.length_nil, List.getElem_cons_succ]
  rw [show (j + 1) * 3 - (0 + 1 + 1 + 1) = j * 3 by omega, show (j + 1) * 3 + 1 - (0 + 1 + 1 + 1) = j * 3 + 1 by omega, show (j + 1) * 3 + 2 - (0 + 1 + 1 + 1) = j * 3 + 2 by omega]
  exact ih
def OwO (w : World) (B : Nat) (v : Value) (ps : List (ByteArray × Int × Int)) : Prop := w.ownsRow B 92 3 v ps.length (opsOf ps)
theorem OwO.nil (w : World) (B : Nat) : OwO w B (.slice none 0 0) [] := World.ownsRow_nil w B _ 3
theorem OwO.keep {F : Nat -> Prop} {w w' : World} {B : Nat} {v : Value} {ps : List (ByteArray × Int × Int)} (h : OwO w B v ps) (hf : Fr F w w') (hF : ∀ k, F k -> v.ownBlock ≠ some k) : OwO w' B v ps := by
 refine ⟨h.1, ?_⟩
 rcases h.2 with hn | ⟨g, cap, cur, rfl, hb, hg, rest⟩
 ·exact .inl hn
 ·exact .inr ⟨g, cap, cur, rfl, hb, hf.kept hg (fun h => hF g h rfl), rest⟩
theorem OwO.still {w w' : World} {B : Nat} {v : Value} {ps : List (ByteArray × Int × Int)} (h : OwO w B v ps) (hf : Still w w') : OwO w' B v ps := h.keep hf (fun _ e => e.elim)
theorem OwO.alloc {w : World} {B : Nat} {v : Value} {ps : List (ByteArray × Int × Int)} (h : OwO w B v ps) (o : Obj) : OwO (w.alloc o) B v ps := h.still (Still.alloc w o)
theorem OwO.less {w : World} {B B' : Nat} {v : Value} {ps : List (ByteArray × Int × Int)} (h : OwO w B v ps) (hb : B' <= B) : OwO w B' v ps := by
 refine ⟨h.1, ?_⟩
 rcases h.2 with hn | ⟨g, cap, cur, rfl, hg, rest⟩
 ·exact .inl hn
 ·exact .inr ⟨g, cap, cur, rfl, by omega, rest⟩
theorem OwO.slice {w : World} {B : Nat} {v : Value} {ps : List (ByteArray × Int × Int)} (h : OwO w B v ps) : ∃ ao cap, v = .slice ao ps.length cap /\ (ao = none \/ ∃ g, ao = some ⟨g, 0, none⟩ /\ B <= g /\ g < w.heap.size) := by
 rcases h.2 with ⟨rfl, hn⟩ | ⟨g, cap, cur, rfl, hb, hg, rest⟩
 ·exact ⟨none, 0, by rw [hn], .inl rfl⟩
 ·exact ⟨_, cap, rfl, .inr ⟨g, rfl, hb, block_lt hg⟩⟩
theorem OwO.block {w : World} {B k : Nat} {v : Value} {ps : List (ByteArray × Int × Int)} (h : OwO w B v ps) (hk : v.ownBlock = some k) : B <= k /\ k < w.heap.size := h.lt k hk
theorem OwO.head {w : World} {B : Nat} {v : Value} {ps : List (ByteArray × Int × Int)} (h : OwO w B v ps) (hn : 0 < ps.length) : ∃ g cap, v = .slice (some ⟨g, 0, none⟩) ps.length cap /\ B <= g /\ g < w.heap.size := by
 rcases h.2 with ⟨rfl, h0⟩ | ⟨g, cap, cur, rfl, hb, hg, rest⟩
 ·omega
 ·exact ⟨g, cap, rfl, hb, block_lt hg⟩
theorem OwO.cell {w : World} {B g n cap : Nat} {ps : List (ByteArray × Int × Int)} (h : OwO w B (.slice (some ⟨g, 0, none⟩) n cap) ps) (j : Nat) (hj : j < ps.length) :
  w.cell? ⟨g, j * 3, none⟩ = some (.string (ps[j]).1) /\ w.cell? ⟨g, j * 3 + 1, none⟩ = some (.int .i64 (ps[j]).2.1) /\ w.cell? ⟨g, j * 3 + 2, none⟩ = some (.int .i64 (ps[j]).2.2) /\ ∀ o, w.frozen? ⟨g, o, none⟩ = false := by
 obtain ⟨h1, h2, h3⟩ := opsOf_get ps j hj
 have k1 := World.ownsRow.cells h (g := g) rfl _ _ h1
 have k2 := World.ownsRow.cells h (g := g) rfl _ _ h2
 have k3 := World.ownsRow.cells h (g := g) rfl _ _ h3
 rw [add_plain, Nat.zero_add] at k1 k2 k3
 refine ⟨k1, k2, k3, fun o => ?_⟩
 rcases h.2 with ⟨hv, _⟩ | ⟨g', cap', cur, hv, hb, hg, rest⟩
 ·cases hv
 ·cases hv; exact frozen_of_row w g o _ _ hg
def Opb (w : World) (g : Nat) (s : ByteArray) (x y : Int) : Prop := w.heap[g]? = some (.cells #[.string s, .int .i64 x, .int .i64 y] 92 (0, 0))
theorem Opb.still {w w' : World} {g : Nat} {s : ByteArray} {x y : Int} (h : Opb w g s x y) (hs : Still w w') : Opb w' g s x y := hs.kept_still h
theorem Opb.cells {w : World} {g : Nat} {s : ByteArray} {x y : Int} (h : Opb w g s x y) :
  w.cell? ⟨g, 0, none⟩ = some (.string s) /\ w.cell? ⟨g, 1, none⟩ = some (.int .i64 x) /\ w.cell? ⟨g, 2, none⟩ = some (.int .i64 y) /\ ∀ o, w.frozen? ⟨g, o, none⟩ = false := by
 refine ⟨?_, ?_, ?_, fun o => frozen_of_row w g o _ _ h⟩ <;> (rw [cell_of_row _ _ _ _ _ _ h]; rfl)
abbrev newOp (w : World) (s : ByteArray) (x y : Int) : World := w.alloc (.cells #[.string s, .int .i64 x, .int .i64 y] 92)
theorem newOp_opb (w : World) (s : ByteArray) (x y : Int) : Opb (newOp w s x y) w.heap.size s x y := heap_alloc_new w _
theorem OwO.one {w : World} {g B : Nat} {s : ByteArray} {x y : Int} (h : Opb w g s x y) (hB : B <= g) : OwO w B (.slice (some ⟨g, 0, none⟩) 1 1) [(s, x, y)] :=
 ⟨rfl, .inr ⟨g, 1, _, rfl, hB, h, by simp, by simp [maxLen], rfl, rfl⟩⟩
theorem info_opk : (Tryd.prog.info? 92).map (fun i => (i.zero, i.size, i.bytes)) = some (some (.agg #[.string ByteArray.empty, .int .i64 0, .int .i64 0]), 3, 32) := by kernel_rfl
theorem info_op : ∃ i, Tryd.prog.info? 92 = some i /\ i.zero = some (.agg #[.string ByteArray.empty, .int .i64 0, .int .i64 0]) /\ i.size = 3 /\ i.bytes = 32 := info_parts info_opk
theorem wpList_appO (w : World) {ops : Array Oper} {rest : List Oper} {o : Oper} {a : Act} {Q : Exit -> Act -> World -> Prop} (hgd : o.guard = none) (s x : Operand)
  (hop : o.op = .call { callee := .builtin .append, args := #[s, x], argTypes := #[88, 88] })
  (B g : Nat) (v : Value) (ps : List (ByteArray × Int × Int)) (n : ByteArray) (p q : Int) (hs : a.eval s = v) (hx : a.eval x = .slice (some ⟨g, 0, none⟩) 1 1) (ho : OwO w B v ps) (hr : Opb w g n p q) (h47 : ps.length <= 100000) (hB : B <= w.heap.size)
  (h : ∀ v' w', OwO w' B v' (ps ++ [(n, p, q)]) -> Fr (fun k => v.ownBlock = some k) w w' -> wpList Tryd.prog ops Q rest (a.put o.dst v') w') : wpList Tryd.prog ops Q (o :: rest) a w := by
 obtain ⟨i, hi, hz, h1, h2⟩ := info_op
 refine wpList_append_own (P := Tryd.prog) w hgd s x 88 hop B 92 i (.agg #[.string ByteArray.empty, .int .i64 0, .int .i64 0]) 3 32 Tryd.underlying88 hi hz h1 h2 rfl (by omega) v ps.length (opsOf ps) hs ho ⟨g, 0, none⟩ 1 1 (opsOf [(n, p, q)]) hx rfl ?_ (opsOf_one _) (by unfold maxLen; omega) (by omega) hB ?_
 ·intro j u hu
  rw [add_plain, Nat.zero_add]
  have hj : j < 3 := by
   have := (List.getElem?_eq_some_iff.1 hu).1
   simpa [opsOf] using this
  rcases (show j = 0 \/ j = 1 \/ j = 2 by omega) with rfl | rfl | rfl
  ·simp [opsOf] at hu; subst hu; exact hr.cells.1
  ·simp [opsOf] at hu; subst hu; exact hr.cells.2.1
  ·simp [opsOf] at hu; subst hu; exact hr.cells.2.2.1
 ·intro v' w' hown hgr _
  refine h v' w' ?_ ⟨hgr.os, hgr.tape, hgr.output, hgr.size, fun k hk hn => hgr.block k hk (fun e => hn e.symm)⟩
  unfold OwO
  rw [opsOf_app, List.length_append]
  exact hown
theorem still_appO {w0 w w' : World} {B : Nat} {v : Value} {ps : List (ByteArray × Int × Int)} (hs : Still w0 w) (ho : OwO w B v ps) (hf : Fr (fun k => v.ownBlock = some k) w w') (hB : w0.heap.size <= B) : Still w0 w' :=
 Fr.trans hs hf (fun k hk e => by have := (ho.block e).1; omega)
structure OTab (w : World) : Prop where
 fs : ∀ d, d < 7 -> w.cell? ⟨0, d, none⟩ = some (.string (fsB d))
 lo : ∀ d, d < 7 -> w.cell? ⟨1, d, none⟩ = some (.int .i64 (lo d))
 hi : ∀ d, d < 7 -> w.cell? ⟨2, d, none⟩ = some (.int .i64 (hi d))
theorem OTab.still {w w' : World} /- 50 -/ (h : OTab w) (hs : Still w w') : OTab w' :=
 ⟨fun d hd => (hs.cell (World.block_lt_of_cell? w _ (h.fs d hd)) (fun e => e)).trans (h.fs d hd), fun d hd => (hs.cell (World.block_lt_of_cell? w _ (h.lo d hd)) (fun e => e)).trans (h.lo d hd), fun d hd => (hs.cell (World.block_lt_of_cell? w _ (h.hi d hd)) (fun e => e)).trans (h.hi d hd)⟩
end Go.Proofs.YtnbofjaecchnaaaDoor
namespace Go.Proofs.YtnbofjaecchnaaaDoor
open Go.RowKit
open Vp
theorem ris_any (v : Int) (w : World) : Calls Tryd.prog 49 #[.int .i64 v] w fun e w' => e = .returned (.bool (isV v)) /\ w' = w := by
 by_cases h1 : 1 <= v
 ·by_cases h2 : v <= 7
  ·rw [isV_iff.2 ⟨h1, h2⟩]
   go_enter Tryd.func49, Tryd.ntmps49
   go_wp2_with fail
   go_ret
   exact ⟨rfl, rfl⟩
  ·have HE := hid (isV_no.2 (.inr (show 7 < v by omega)))
   have hd : decide (v <= 7) = false := by simp; omega
   rw [HE.out]
   go_enter Tryd.func49, Tryd.ntmps49
   go_wp2_with fail
   go_ret
   first | exact ⟨rfl, rfl⟩ | (rw [hd]; exact ⟨rfl, rfl⟩)
 ·rw [isV_no.2 (.inl (show v < 1 by omega))]
  go_enter Tryd.func49, Tryd.ntmps49
  go_wp2_with fail
  go_ret
  exact ⟨rfl, rfl⟩
end Go.Proofs.YtnbofjaecchnaaaDoor
namespace Go.Proofs.YtnbofjaecchnaaaDoor
open Go.RowKit
open Vp
theorem roper_no (v : Int) (hv : isV v = false) (w : World) : Calls Tryd.prog 50 #[.int .i64 v] w fun e w' => ∃ x, e = .returned x /\ OwO w' w.heap.size x (opV v) /\ Still w w' := by
 have H := hid (fun u => ris_any v u)
 rw [hv] at H
 have HE := hid (show opV v = [] by unfold opV; rw [hv]; rfl)
 clear hv
 go_enter Tryd.func50, Tryd.ntmps50
 go_wp2_with (go_at_call 49; refine (H.out _).mono ?_; rintro e w' ⟨he, hw⟩; rw [he, hw]; clear he hw w')
 go_ret
 exact ⟨_, rfl, by rw [HE.out]; exact OwO.nil _ _, Fr.refl _ _⟩
theorem roper_2 (w : World) (ht : OTab w) : Calls Tryd.prog 50 #[.int .i64 2] w fun e w' => ∃ x, e = .returned x /\ OwO w' w.heap.size x (opV 2) /\ Still w w' := by
 have H := hid (fun u => ris_any 2 u)
 rw [show isV 2 = true by decide] at H
 have c := ht.fs 1 (by omega)
 rw [show fsB 1 = ⟨#[]⟩ from rfl] at c
 have HE := hid (show opV 2 = [] by decide)
 go_enter Tryd.func50, Tryd.ntmps50
 go_wp2_with (go_at_call 49; refine (H.out _).mono ?_; rintro e w' ⟨he, hw⟩; rw [he, hw]; clear he hw w')
 go_ret
 exact ⟨_, rfl, by rw [HE.out]; exact OwO.nil _ _, Fr.refl _ _⟩
set_option maxHeartbeats 2000000 in
theorem roper_1 (w : World) (ht : OTab w) : Calls Tryd.prog 50 #[.int .i64 1] w fun e w' => ∃ x, e = .returned x /\ OwO w' w.heap.size x (opV 1) /\ Still w w' := by
 have H := hid (fun u => ris_any 1 u)
 rw [show isV 1 = true by decide] at H
 have k0 := ht.fs 0 (by omega)
 have k1 := ht.lo 0 (by omega)
 have k2 := ht.hi 0 (by omega)
 rw [show fsB 0 = ⟨#[120]⟩ from rfl] at k0
 rw [show lo 0 = (-8) from rfl] at k1
 rw [show hi 0 = 8 from rfl] at k2
 have c0 := Cl.cell k0
 have c1 := Cl.cell k1
 have c2 := Cl.cell k2
 have hne := Aft.here w
 go_enter Tryd.func50, Tryd.ntmps50
 go_wp2_with (go_at_call 49; refine (H.out _).mono ?_; rintro e w' ⟨he, hw⟩; rw [he, hw]; clear he hw w')
 clear k0 k1 k2
 refine region_rest 13 (by kernel_rfl) (by kernel_rfl) ?_
 simp only [List.take_succ_cons, List.take_zero, List.drop_succ_cons, List.drop_zero]
 repeat (go_big_quiet_step (fail))
 refine wpQuiet_nil ?_
 intro w1 h1
 clear c0 c1 c2 hne
 have o1 := newOp_opb w1 ⟨#[120]⟩ (-8) 8
 have r1 := OwO.one (B := w.heap.size) o1 h1.size
 have HS1 := hid (h1.trans (Still.alloc w1 (.cells #[.string ⟨#[120]⟩, .int .i64 (-8), .int .i64 8] 92)))
 have HE := hid (show opV 1 = [(⟨#[120]⟩, (-8), 8)] ++ [(⟨#[121]⟩, -8, 8)] from rfl)
 have HR := hid (r1.alloc (.cells #[.string ⟨#[121]⟩, .int .i64 (-8), .int .i64 8] 92))
 have HO := hid (newOp_opb (newOp w1 ⟨#[120]⟩ (-8) 8) ⟨#[121]⟩ (-8) 8)
 have HS2 := hid (HS1.out.trans (Still.alloc (newOp w1 ⟨#[120]⟩ (-8) 8) (.cells #[.string ⟨#[121]⟩, .int .i64 (-8), .int .i64 8] 92)))
 clear o1 r1 HS1
 go_wp2_with (at_builtin; refine wpList_appO _ rfl _ _ rfl w.heap.size (newOp w1 ⟨#[120]⟩ (-8) 8).heap.size _ [(⟨#[120]⟩, (-8), 8)] ⟨#[121]⟩ (-8) 8 rfl (by simp; rfl) HR.out HO.out (by simp) HS2.out.size ?_; intro v' w' ho' hf')
 have HS3 := hid (still_appO HS2.out HR.out hf' (Nat.le_refl _))
 go_ret
 exact ⟨_, rfl, by rw [HE.out]; exact ho', HS3.out⟩
set_option maxHeartbeats 2000000 in
theorem roper_3 (w : World) (ht : OTab w) : Calls Tryd.prog 50 #[.int .i64 3] w fun e w' => ∃ x, e = .returned x /\ OwO w' w.heap.size x (opV 3) /\ Still w w' := by
 have H := hid (fun u => ris_any 3 u)
 rw [show isV 3 = true by decide] at H
 have k0 := ht.fs 2 (by omega)
 have k1 := ht.lo 2 (by omega)
 have k2 := ht.hi 2 (by omega)
 rw [show fsB 2 = ⟨#[116, 111]⟩ from rfl] at k0
 rw [show lo 2 = 0 from rfl] at k1
 rw [show hi 2 = 15 from rfl] at k2
 have c0 := Cl.cell k0
 have c1 := Cl.cell k1
 have c2 := Cl.cell k2
 have hne := Aft.here w
 go_enter Tryd.func50, Tryd.ntmps50
 go_wp2_with (go_at_call 49; refine (H.out _).mono ?_; rintro e w' ⟨he, hw⟩; rw [he, hw]; clear he hw w')
 clear k0 k1 k2
 refine region_rest 13 (by kernel_rfl) (by kernel_rfl) ?_
 simp only [List.take_succ_cons, List.take_zero, List.drop_succ_cons, List.drop_zero]
 repeat (go_big_quiet_step (fail))
 refine wpQuiet_nil ?_
 intro w1 h1
 clear c0 c1 c2 hne
 have o1 := newOp_opb w1 ⟨#[116, 111]⟩ 0 15
 have r1 := OwO.one (B := w.heap.size) o1 h1.size
 have HS1 := hid (h1.trans (Still.alloc w1 (.cells #[.string ⟨#[116, 111]⟩, .int .i64 0, .int .i64 15] 92)))
 have HE := hid (show opV 3 = [(⟨#[116, 111]⟩, 0, 15)] from rfl)
 go_wp2_with fail
 go_ret
 exact ⟨_, rfl, by rw [HE.out]; exact r1, HS1.out⟩
set_option maxHeartbeats 2000000 in
theorem roper_4 (w : World) (ht : OTab w) : Calls Tryd.prog 50 #[.int .i64 4] w fun e w' => ∃ x, e = .returned x /\ OwO w' w.heap.size x (opV 4) /\ Still w w' := by
 have H := hid (fun u => ris_any 4 u)
 rw [show isV 4 = true by decide] at H
 have k0 := ht.fs 3 (by omega)
 have k1 := ht.lo 3 (by omega)
 have k2 := ht.hi 3 (by omega)
 rw [show fsB 3 = ⟨#[112, 111, 119, 101, 114]⟩ from rfl] at k0
 rw [show lo 3 = 1 from rfl] at k1
 rw [show hi 3 = 3 from rfl] at k2
 have c0 := Cl.cell k0
 have c1 := Cl.cell k1
 have c2 := Cl.cell k2
 have hne := Aft.here w
 go_enter Tryd.func50, Tryd.ntmps50
 go_wp2_with (go_at_call 49; refine (H.out _).mono ?_; rintro e w' ⟨he, hw⟩; rw [he, hw]; clear he hw w')
 clear k0 k1 k2
 refine region_rest 13 (by kernel_rfl) (by kernel_rfl) ?_
 simp only [List.take_succ_cons, List.take_zero, List.drop_succ_cons, List.drop_zero]
 repeat (go_big_quiet_step (fail))
 refine wpQuiet_nil ?_
 intro w1 h1
 clear c0 c1 c2 hne
 have o1 := newOp_opb w1 ⟨#[112, 111, 119, 101, 114]⟩ 1 3
 have r1 := OwO.one (B := w.heap.size) o1 h1.size
 have HS1 := hid (h1.trans (Still.alloc w1 (.cells #[.string ⟨#[112, 111, 119, 101, 114]⟩, .int .i64 1, .int .i64 3] 92)))
 have HE := hid (show opV 4 = [(⟨#[112, 111, 119, 101, 114]⟩, 1, 3)] from rfl)
 go_wp2_with fail
 go_ret
 exact ⟨_, rfl, by rw [HE.out]; exact r1, HS1.out⟩
set_option maxHeartbeats 2000000 in
theorem roper_5 (w : World) (ht : OTab w) : Calls Tryd.prog 50 #[.int .i64 5] w fun e w' => ∃ x, e = .returned x /\ OwO w' w.heap.size x (opV 5) /\ Still w w' := by
 have H := hid (fun u => ris_any 5 u)
 rw [show isV 5 = true by decide] at H
 have k0 := ht.fs 4 (by omega)
 have k1 := ht.lo 4 (by omega)
 have k2 := ht.hi 4 (by omega)
 rw [show fsB 4 = ⟨#[111, 110]⟩ from rfl] at k0
 rw [show lo 4 = 0 from rfl] at k1
 rw [show hi 4 = 1 from rfl] at k2
 have c0 := Cl.cell k0
 have c1 := Cl.cell k1
 have c2 := Cl.cell k2
 have hne := Aft.here w
 go_enter Tryd.func50, Tryd.ntmps50
 go_wp2_with (go_at_call 49; refine (H.out _).mono ?_; rintro e w' ⟨he, hw⟩; rw [he, hw]; clear he hw w')
 clear k0 k1 k2
 refine region_rest 13 (by kernel_rfl) (by kernel_rfl) ?_
 simp only [List.take_succ_cons, List.take_zero, List.drop_succ_cons, List.drop_zero]
 repeat (go_big_quiet_step (fail))
 refine wpQuiet_nil ?_
 intro w1 h1
 clear c0 c1 c2 hne
 have o1 := newOp_opb w1 ⟨#[111, 110]⟩ 0 1
 have r1 := OwO.one (B := w.heap.size) o1 h1.size
 have HS1 := hid (h1.trans (Still.alloc w1 (.cells #[.string ⟨#[111, 110]⟩, .int .i64 0, .int .i64 1] 92)))
 have HE := hid (show opV 5 = [(⟨#[111, 110]⟩, 0, 1)] from rfl)
 go_wp2_with fail
 go_ret
 exact ⟨_, rfl, by rw [HE.out]; exact r1, HS1.out⟩
set_option maxHeartbeats 2000000 in
theorem roper_6 (w : World) (ht : OTab w) : Calls Tryd.prog 50 #[.int .i64 6] w fun e w' => ∃ x, e = .returned x /\ OwO w' w.heap.size x (opV 6) /\ Still w w' := by
 have H := hid (fun u => ris_any 6 u)
 rw [show isV 6 = true by decide] at H
 have k0 := ht.fs 5 (by omega)
 have k1 := ht.lo 5 (by omega)
 have k2 := ht.hi 5 (by omega)
 rw [show fsB 5 = ⟨#[116, 111]⟩ from rfl] at k0
 rw [show lo 5 = 0 from rfl] at k1
 rw [show hi 5 = 15 from rfl] at k2
 have c0 := Cl.cell k0
 have c1 := Cl.cell k1
 have c2 := Cl.cell k2
 have hne := Aft.here w
 go_enter Tryd.func50, Tryd.ntmps50
 go_wp2_with (go_at_call 49; refine (H.out _).mono ?_; rintro e w' ⟨he, hw⟩; rw [he, hw]; clear he hw w')
 clear k0 k1 k2
 refine region_rest 13 (by kernel_rfl) (by kernel_rfl) ?_
 simp only [List.take_succ_cons, List.take_zero, List.drop_succ_cons, List.drop_zero]
 repeat (go_big_quiet_step (fail))
 refine wpQuiet_nil ?_
 intro w1 h1
 clear c0 c1 c2 hne
 have o1 := newOp_opb w1 ⟨#[116, 111]⟩ 0 15
 have r1 := OwO.one (B := w.heap.size) o1 h1.size
 have HS1 := hid (h1.trans (Still.alloc w1 (.cells #[.string ⟨#[116, 111]⟩, .int .i64 0, .int .i64 15] 92)))
 have HE := hid (show opV 6 = [(⟨#[116, 111]⟩, 0, 15)] from rfl)
 go_wp2_with fail
 go_ret
 exact ⟨_, rfl, by rw [HE.out]; exact r1, HS1.out⟩
set_option maxHeartbeats 2000000 in
theorem roper_7 (w : World) (ht : OTab w) : Calls Tryd.prog 50 #[.int .i64 7] w fun e w' => ∃ x, e = .returned x /\ OwO w' w.heap.size x (opV 7) /\ Still w w' := by
 have H := hid (fun u => ris_any 7 u)
 rw [show isV 7 = true by decide] at H
 have k0 := ht.fs 6 (by omega)
 have k1 := ht.lo 6 (by omega)
 have k2 := ht.hi 6 (by omega)
 rw [show fsB 6 = ⟨#[119, 104, 97, 116]⟩ from rfl] at k0
 rw [show lo 6 = 0 from rfl] at k1
 rw [show hi 6 = 255 from rfl] at k2
 have c0 := Cl.cell k0
 have c1 := Cl.cell k1
 have c2 := Cl.cell k2
 have hne := Aft.here w
 go_enter Tryd.func50, Tryd.ntmps50
 go_wp2_with (go_at_call 49; refine (H.out _).mono ?_; rintro e w' ⟨he, hw⟩; rw [he, hw]; clear he hw w')
 clear k0 k1 k2
 refine region_rest 13 (by kernel_rfl) (by kernel_rfl) ?_
 simp only [List.take_succ_cons, List.take_zero, List.drop_succ_cons, List.drop_zero]
 repeat (go_big_quiet_step (fail))
 refine wpQuiet_nil ?_
 intro w1 h1
 clear c0 c1 c2 hne
 have o1 := newOp_opb w1 ⟨#[119, 104, 97, 116]⟩ 0 255
 have r1 := OwO.one (B := w.heap.size) o1 h1.size
 have HS1 := hid (h1.trans (Still.alloc w1 (.cells #[.string ⟨#[119, 104, 97, 116]⟩, .int .i64 0, .int .i64 255] 92)))
 have HE := hid (show opV 7 = [(⟨#[119, 104, 97, 116]⟩, 0, 255)] from rfl)
 go_wp2_with fail
 go_ret
 exact ⟨_, rfl, by rw [HE.out]; exact r1, HS1.out⟩
theorem roper_any (v : Int) (w : World) (ht : OTab w) : Calls Tryd.prog 50 #[.int .i64 v] w fun e w' => ∃ x, e = .returned x /\ OwO w' w.heap.size x (opV v) /\ Still w w' := by
 cases h : isV v with
 | false => exact roper_no v h w
 | true =>
  rcases verbs h with rfl | rfl | rfl | rfl | rfl | rfl | rfl
  ·exact roper_1 w ht
  ·exact roper_2 w ht
  ·exact roper_3 w ht
  ·exact roper_4 w ht
  ·exact roper_5 w ht
  ·exact roper_6 w ht
  ·exact roper_7 w ht
end Go.Proofs.YtnbofjaecchnaaaDoor
namespace Go.Proofs.YtnbofjaecchnaaaDoor
open Go.RowKit
open Vp
set_option maxRecDepth 100000
def gv (a b c : Int) (i : Nat) : Int := [a, b, c].getD i 0
def okI (ps : List (ByteArray × Int × Int)) (x : Int) (i : Nat) : Bool := match ps[i]? with
 | some p => decide (p.2.1 <= x) && decide (x <= p.2.2)
 | none => decide (x = 0)
def Arb (w : World) (g : Nat) (a b c : Int) : Prop := w.heap[g]? = some (.cells #[.int .i64 a, .int .i64 b, .int .i64 c] 90 (0, 0))
theorem Arb.still {w w' : World} {g : Nat} {a b c : Int} (h : Arb w g a b c) (hs : Still w w') : Arb w' g a b c := hs.kept_still h
theorem Arb.at {w : World} {g : Nat} {a b c : Int} (h : Arb w g a b c) (i : Nat) (hi : i < 3) : w.cell? ⟨g, i, none⟩ = some (.int .i64 (gv a b c i)) := by
 rcases (show i = 0 \/ i = 1 \/ i = 2 by omega) with rfl | rfl | rfl <;> (rw [cell_of_row _ _ _ _ _ _ h]; rfl)
theorem newArr (w : World) (a b c : Int) : Arb (w.alloc (.cells #[.int .i64 a, .int .i64 b, .int .i64 c] 90)) w.heap.size a b c := heap_alloc_new w _
theorem okI_out {ps : List (ByteArray × Int × Int)} {x : Int} {i : Nat} (h : ps.length <= i) : okI ps x i = decide (x = 0) := by unfold okI; rw [List.getElem?_eq_none h]
theorem okI_in {ps : List (ByteArray × Int × Int)} {x : Int} {i : Nat} (h : i < ps.length) : okI ps x i = (decide ((ps[i]).2.1 <= x) && decide (x <= (ps[i]).2.2)) := by unfold okI; rw [List.getElem?_eq_getElem h]
theorem ok3 {ps : List (ByteArray × Int × Int)} {a b c : Int} (h : ∀ i, i < 3 -> okI ps (gv a b c i) i = true) : (0 : Int) = if okI ps a 0 && okI ps b 1 && okI ps c 2 then 0 else 71 := by
 have h0 := h 0 (by omega)
 have h1 := h 1 (by omega)
 have h2 := h 2 (by omega)
 simp only [gv, List.getD_cons_zero, List.getD_cons_succ] at h0 h1 h2
 rw [h0, h1, h2]; rfl
theorem no3 {ps : List (ByteArray × Int × Int)} {a b c : Int} {i : Nat} (hi : i < 3) (h : okI ps (gv a b c i) i = false) : (71 : Int) = if okI ps a 0 && okI ps b 1 && okI ps c 2 then 0 else 71 := by
 rcases (show i = 0 \/ i = 1 \/ i = 2 by omega) with rfl | rfl | rfl <;> simp only [gv, List.getD_cons_zero, List.getD_cons_succ] at h <;> rw [h] <;> simp
set_option maxHeartbeats 4000000 in
theorem rchk_yes (v a b c : Int) (hv : isV v = true) (w : World) (ht : OTab w) : Calls Tryd.prog 36 #[od v a b c] w fun e w' => e = .returned (.int .i64 (if okI (opV v) a 0 && okI (opV v) b 1 && okI (opV v) c 2 then 0 else 71)) /\ Still w w' := by
 obtain ⟨ps, eps⟩ : ∃ ps, opV v = ps := ⟨_, rfl⟩
 rw [eps]
 have HP := hid eps
 clear eps
 obtain ⟨X, eX⟩ : ∃ X : Int, (if okI ps a 0 && okI ps b 1 && okI ps c 2 then 0 else 71) = X := ⟨_, rfl⟩
 rw [eX]
 have HX := hid eX
 clear eX
 have p := newO_orb w v a b c
 have H := hid (fun u => ris_any v u)
 rw [hv] at H
 have HS0 := hid (Still.alloc w (.cells #[.int .i64 v, .int .i64 a, .int .i64 b, .int .i64 c] 34))
 have HT := hid (ht.still HS0.out)
 obtain ⟨c0, c1, c2, c3, cf⟩ := p.cells
 clear hv
 go_enter Tryd.func36, Tryd.ntmps36
 go_wp2_with (go_at_call 49; refine (H.out _).mono ?_; rintro e w' ⟨he, hw⟩; rw [he, hw]; clear he hw w')
 refine (roper_any v _ HT.out).mono ?_
 rintro e w1 ⟨x, rfl, ho, h1⟩
 rw [HP.out] at ho
 have p1 := p.still h1
 clear c0 c1 c2 c3 cf p
 obtain ⟨c0, c1, c2, c3, cf⟩ := p1.cells
 have HT1 := hid h1
 have p2 := newArr w1 a b c
 have o2 := ho.alloc (.cells #[.int .i64 a, .int .i64 b, .int .i64 c] 90)
 have HSW := hid ((HS0.out.trans h1).trans (Still.alloc w1 (.cells #[.int .i64 a, .int .i64 b, .int .i64 c] 90)))
 obtain ⟨ao, cap, rfl, _⟩ := o2.slice
 obtain ⟨n, en⟩ : ∃ n, ps.length = n := ⟨_, rfl⟩
 rw [en]
 have HN := hid en
 clear ho h1 HT1 en
 go_wp2_with fail
 go_loopw [6] (fun u wr => ∃ k : Nat, k <= 3 /\ u = .int .i64 (k : Int) /\ (∀ i, i < k -> okI ps (gv a b c i) i = true) /\ Still (w1.alloc (.cells #[.int .i64 a, .int .i64 b, .int .i64 c] 90)) wr) (fun u _ => 3 - (intOf u).toNat)
 case atStart => exact ⟨0, by omega, rfl, fun i hi => by omega, Fr.refl _ _⟩
 case round =>
  clear c0 c1 c2 c3 cf
  obtain ⟨k, hk, rfl, hF, hs⟩ := hrel
  by_cases hk3 : k < 3
  ·have q2 := p2.still hs
   have r2 := o2.still hs
   have HS2 := hid hs
   have k0 := Cl.cell (q2.at k hk3)
   have hne := Aft.here wr
   have hi3 : (k : Int) < 3 := by omega
   obtain ⟨y, ey⟩ : ∃ y, gv a b c k = y := ⟨_, rfl⟩
   rw [ey] at k0
   clear hs q2
   by_cases hkn : k < n
   ·have hlt : (k : Int) < (n : Int) := by omega
    have hng : decide ((n : Int) <= (k : Int)) = false := by simp; omega
    have hng' : decide (n <= k) = false := by simp; omega
    have hlt' : decide (k < n) = true := by simp; omega
    have hpl : k < ps.length := by rw [HN.out]; exact hkn
    obtain ⟨g, cg, e1, _, _⟩ := r2.head (by omega)
    rw [HN.out] at e1
    cases e1
    obtain ⟨_, m1, m2, _⟩ := r2.cell k hpl
    have hx := okI_in (ps := ps) (x := gv a b c k) (i := k) hpl
    obtain ⟨lw, elw⟩ : ∃ z, (ps[k]).2.1 = z := ⟨_, rfl⟩
    obtain ⟨up, eup⟩ : ∃ z, (ps[k]).2.2 = z := ⟨_, rfl⟩
    rw [elw] at m1 hx
    rw [eup] at m2 hx
    rw [ey] at hx
    have k1 := Cl.cell m1
    have k2 := Cl.cell m2
    clear hkn r2 m1 m2 elw eup
    by_cases hy : lw <= y
    ·have hd1 : decide (y < lw) = false := by simp; omega
     by_cases hz : y <= up
     ·have HE := hid (show okI ps (gv a b c k) k = true by rw [ey, hx]; simp [hy, hz])
      have hd2 : decide (up < y) = false := by simp; omega
      clear hx ey hy hz
      go_wp2_with fail
      refine region_all (by kernel_rfl) (by kernel_rfl) ?_
      repeat (go_big_quiet_step (fail))
      refine wpQuiet_nil ?_
      intro w2 h2
      have HS3 := hid (Still.trans HS2.out h2)
      clear hne k0 k1 k2 h2 HS2
      go_wp2_with fail
      go_roundw
      case rel => exact ⟨k + 1, by omega, by go_num, fun i hi => by
       by_cases e : i = k
       ·subst e; exact HE.out
       ·exact hF i (by omega), HS3.out⟩
      case measure => simp [intOf]; omega
     ·have HE := hid (show okI ps (gv a b c k) k = false by rw [ey, hx]; simp; omega)
      have hd2 : decide (up < y) = true := by simp; omega
      have hu : up < y := by omega
      clear hx ey hy hz
      go_wp2_with fail
      refine region_all (by kernel_rfl) (by kernel_rfl) ?_
      repeat (go_big_quiet_step (fail))
      refine wpQuiet_nil ?_
      intro w2 h2
      have HS3 := hid (Still.trans HS2.out h2)
      clear hne k0 k1 k2 h2 HS2
      go_wp2_with fail
      first | rw [Exit.noGoto_ret] | skip
      go_ret
      exact ⟨by rw [<- HX.out, <- no3 hk3 HE.out]; rfl, Still.trans HSW.out HS3.out⟩
    ·have HE := hid (show okI ps (gv a b c k) k = false by rw [ey, hx]; simp; omega)
     have hd1 : decide (y < lw) = true := by simp; omega
     have hu : y < lw := by omega
     clear hx ey hy
     go_wp2_with fail
     refine region_all (by kernel_rfl) (by kernel_rfl) ?_
     repeat (go_big_quiet_step (fail))
     refine wpQuiet_nil ?_
     intro w2 h2
     have HS3 := hid (Still.trans HS2.out h2)
     clear hne k0 k1 k2 h2 HS2
     go_wp2_with fail
     first | rw [Exit.noGoto_ret] | skip
     go_ret
     exact ⟨by rw [<- HX.out, <- no3 hk3 HE.out]; rfl, Still.trans HSW.out HS3.out⟩
   ·have hge : (n : Int) <= (k : Int) := by omega
    have hnl : decide ((k : Int) < (n : Int)) = false := by simp; omega
    have hnl' : decide (k < n) = false := by simp; omega
    have hge' : decide (n <= k) = true := by simp; omega
    have hx := okI_out (ps := ps) (x := gv a b c k) (i := k) (by rw [HN.out]; omega)
    rw [ey] at hx
    clear hkn r2
    by_cases hy : y = 0
    ·subst hy
     have HE := hid (show okI ps (gv a b c k) k = true by rw [ey, hx]; rfl)
     clear hx ey
     go_wp2_with fail
     refine region_all (by kernel_rfl) (by kernel_rfl) ?_
     repeat (go_big_quiet_step (fail))
     refine wpQuiet_nil ?_
     intro w2 h2
     have HS3 := hid (Still.trans HS2.out h2)
     clear hne k0 h2 HS2
     go_wp2_with fail
     go_roundw
     case rel => exact ⟨k + 1, by omega, by go_num, fun i hi => by
      by_cases e : i = k
      ·subst e; exact HE.out
      ·exact hF i (by omega), HS3.out⟩
     case measure => simp [intOf]; omega
    ·have HE := hid (show okI ps (gv a b c k) k = false by rw [ey, hx]; simpa using hy)
     have hb : (y != 0) = true := by simpa using hy
     clear hx ey
     go_wp2_with fail
     refine region_all (by kernel_rfl) (by kernel_rfl) ?_
     repeat (go_big_quiet_step (fail))
     refine wpQuiet_nil ?_
     intro w2 h2
     have HS3 := hid (Still.trans HS2.out h2)
     clear hne k0 h2 HS2
     go_wp2_with fail
     first | rw [Exit.noGoto_ret] | skip
     go_ret
     exact ⟨by rw [<- HX.out, <- no3 hk3 HE.out]; rfl, Still.trans HSW.out HS3.out⟩
  ·have HE := hid (ok3 (fun i hi => hF i (by omega)))
   have HS2 := hid hs
   clear hs hF
   go_wp2_with fail
   go_ret
   exact ⟨by rw [<- HX.out, <- HE.out]; rfl, Still.trans HSW.out HS2.out⟩
theorem okI_all {v a b c : Int} (h : isV v = true) : (okI (opV v) a 0 && okI (opV v) b 1 && okI (opV v) c 2) = okO v a b c := by
 rcases verbs h with rfl | rfl | rfl | rfl | rfl | rfl | rfl
 ·rw [show opV 1 = [(⟨#[120]⟩, -8, 8), (⟨#[121]⟩, -8, 8)] from rfl]
  unfold okO
  rw [show lo ((1 : Int) - 1).toNat = -8 from rfl, show hi ((1 : Int) - 1).toNat = 8 from rfl, if_pos rfl]
  rfl
 ·rw [show opV 2 = [] from rfl]
  unfold okO
  rw [show lo ((2 : Int) - 1).toNat = 0 from rfl, show hi ((2 : Int) - 1).toNat = 0 from rfl, if_neg (by decide)]
  show (decide (a = 0) && decide (b = 0) && decide (c = 0)) = _
  rw [Bool.eq_iff_iff]
  simp only [Bool.and_eq_true, decide_eq_true_eq]
  omega
 all_goals
  unfold okO
  rw [if_neg (by decide)]
  rfl
theorem rchk_no (v a b c : Int) (hv : isV v = false) (w : World) : Calls Tryd.prog 36 #[od v a b c] w fun e w' => e = .returned (.int .i64 70) /\ Still w w' := by
 have p := newO_orb w v a b c
 have H := hid (fun u => ris_any v u)
 rw [hv] at H
 have HS0 := hid (Still.alloc w (.cells #[.int .i64 v, .int .i64 a, .int .i64 b, .int .i64 c] 34))
 obtain ⟨c0, c1, c2, c3, cf⟩ := p.cells
 clear hv
 go_enter Tryd.func36, Tryd.ntmps36
 go_wp2_with (go_at_call 49; refine (H.out _).mono ?_; rintro e w' ⟨he, hw⟩; rw [he, hw]; clear he hw w')
 go_ret
 exact ⟨rfl, HS0.out⟩
theorem rchk_any (v a b c : Int) (w : World) (ht : OTab w) : Calls Tryd.prog 36 #[od v a b c] w fun e w' => e = .returned (.int .i64 (chkO v a b c)) /\ Still w w' := by
 unfold chkO
 cases h : isV v with
 | false => exact rchk_no v a b c h w
 | true =>
  have := rchk_yes v a b c h w ht
  rw [okI_all h] at this
  rw [if_pos rfl]
  exact this
end Go.Proofs.YtnbofjaecchnaaaDoor
namespace Go.Proofs.YtnbofjaecchnaaaDoor
open Go.RowKit
open Vp
set_option maxRecDepth 100000
open Go.ChangeMaps (setBlock)
theorem push_set (h : Array Obj) (o o' : Obj) : (h.push o).setIfInBounds h.size o' = h.push o' := by
 apply Array.ext_getElem?
 intro i
 rw [Array.getElem?_setIfInBounds]
 by_cases e : h.size = i
 ·subst e
  simp
 ·rw [if_neg e, Array.getElem?_push, Array.getElem?_push, if_neg (fun k => e k.symm), if_neg (fun k => e k.symm)]
theorem alloc_set (w : World) (o o' : Obj) : setBlock (w.alloc o) w.heap.size o' = w.alloc o' := by
 show ({ w.alloc o with heap := (w.heap.push o).setIfInBounds w.heap.size o' } : World) = { w with heap := w.heap.push o' }
 rw [push_set]
 rfl
theorem chk_key (b : Bool) (x : Int) (w : World) : (Instr.checkKey b 10000 3 (.int .i64 x)).run Tryd.prog w = .ok () w := by
 show (Instr.checkKey b (9999 + 1) 3 (.int .i64 x)).run Tryd.prog w = .ok () w
 rw [Instr.checkKey]
 simp [run_underlying Tryd.underlying3, Result.andThen]
theorem find_key (x : Int) (es : List MapEntry) (r : Option (Nat × Value)) (h : Instr.findNow (.int .i64) (.int .i64 x) es 0 = some r) (w : World) : (Instr.findKey 3 (.int .i64 x) es).run Tryd.prog w = .ok r w := by
 simp [Instr.findKey, run_underlying Tryd.underlying3, h, Result.andThen]
theorem upd_new (w : World) (es : Array MapEntry) (c : Nat) (x : Int) (v : Value) (hf : Instr.findNow (.int .i64) (.int .i64 x) es.toList 0 = some none) :
  (Instr.mapUpdate 108 (.map (some w.heap.size)) (.int .i64 x) v).run Tryd.prog (w.alloc (.map es c)) = .ok () (w.alloc (.map (es.push ⟨.int .i64 x, v, c⟩) (c + 1))) := by
 have hb : (w.alloc (.map es c)).heap[w.heap.size]? = some (.map es c) := heap_alloc_new w _
 have e := alloc_set w (.map es c) (.map (es.push ⟨.int .i64 x, v, c⟩) (c + 1))
 have k : (Instr.mapUpdate 108 (.map (some w.heap.size)) (.int .i64 x) v).run Tryd.prog (w.alloc (.map es c)) = .ok () (setBlock (w.alloc (.map es c)) w.heap.size (.map (es.push ⟨.int .i64 x, v, c⟩) (c + 1))) := by
  simp [Instr.mapUpdate, run_underlying Tryd.underlying108, MapKept.run_getObj_map hb, chk_key, find_key x _ _ hf, MapKept.run_setObj_map _ hb, Result.andThen, setBlock]
 rw [k, e]
abbrev mth (f : Nat) : Value := .func (.func f) #[] #[]
def acE : Array MapEntry := #[⟨.int .i64 1, mth 66, 0⟩, ⟨.int .i64 2, mth 67, 1⟩, ⟨.int .i64 3, mth 68, 2⟩, ⟨.int .i64 4, mth 69, 3⟩, ⟨.int .i64 5, mth 70, 4⟩, ⟨.int .i64 6, mth 71, 5⟩, ⟨.int .i64 7, mth 72, 6⟩]
def Acb (w : World) (b : Nat) : Prop := w.heap[b]? = some (.map acE 7)
theorem Acb.still {w w' : World} {b : Nat} (h : Acb w b) (hs : Still w w') : Acb w' b := by
 unfold Acb at h ⊢
 exact hs.kept_still h
theorem acc_any (w : World) : Calls Tryd.prog 63 #[] w fun e w' => ∃ b, e = .returned (.map (some b)) /\ w.heap.size <= b /\ Acb w' b /\ Still w w' := by
 have m0 := run_makeMap (P := Tryd.prog) 108 w
 have u1 := upd_new w #[] 0 1 (mth 66) (by kernel_rfl)
 rw [show (#[] : Array MapEntry).push ⟨.int .i64 1, mth 66, 0⟩ = (#[⟨.int .i64 1, mth 66, 0⟩] : Array MapEntry) from rfl] at u1
 have u2 := upd_new w #[⟨.int .i64 1, mth 66, 0⟩] 1 2 (mth 67) (by kernel_rfl)
 rw [show #[⟨.int .i64 1, mth 66, 0⟩].push ⟨.int .i64 2, mth 67, 1⟩ = (#[⟨.int .i64 1, mth 66, 0⟩, ⟨.int .i64 2, mth 67, 1⟩] : Array MapEntry) from rfl] at u2
 have u3 := upd_new w #[⟨.int .i64 1, mth 66, 0⟩, ⟨.int .i64 2, mth 67, 1⟩] 2 3 (mth 68) (by kernel_rfl)
 rw [show #[⟨.int .i64 1, mth 66, 0⟩, ⟨.int .i64 2, mth 67, 1⟩].push ⟨.int .i64 3, mth 68, 2⟩ = (#[⟨.int .i64 1, mth 66, 0⟩, ⟨.int .i64 2, mth 67, 1⟩, ⟨.int .i64 3, mth 68, 2⟩] : Array MapEntry) from rfl] at u3
 have u4 := upd_new w #[⟨.int .i64 1, mth 66, 0⟩, ⟨.int .i64 2, mth 67, 1⟩, ⟨.int .i64 3, mth 68, 2⟩] 3 4 (mth 69) (by kernel_rfl)
 rw [show #[⟨.int .i64 1, mth 66, 0⟩, ⟨.int .i64 2, mth 67, 1⟩, ⟨.int .i64 3, mth 68, 2⟩].push ⟨.int .i64 4, mth 69, 3⟩ = (#[⟨.int .i64 1, mth 66, 0⟩, ⟨.int .i64 2, mth 67, 1⟩, ⟨.int .i64 3, mth 68, 2⟩, ⟨.int .i64 4, mth 69, 3⟩] : Array MapEntry) from rfl] at u4
 have u5 := upd_new w #[⟨.int .i64 1, mth 66, 0⟩, ⟨.int .i64 2, mth 67, 1⟩, ⟨.int .i64 3, mth 68, 2⟩, ⟨.int .i64 4, mth 69, 3⟩] 4 5 (mth 70) (by kernel_rfl)
 rw [show #[⟨.int .i64 1, mth 66, 0⟩, ⟨.int .i64 2, mth 67, 1⟩, ⟨.int .i64 3, mth 68, 2⟩, ⟨.int .i64 4, mth 69, 3⟩].push ⟨.int .i64 5, mth 70, 4⟩ = (#[⟨.int .i64 1, mth 66, 0⟩, ⟨.int .i64 2, mth 67, 1⟩, ⟨.int .i64 3, mth 68, 2⟩, ⟨.int .i64 4, mth 69, 3⟩, ⟨.int .i64 5, mth 70, 4⟩] : Array MapEntry) from rfl] at u5
 have u6 := upd_new w #[⟨.int .i64 1, mth 66, 0⟩, ⟨.int .i64 2, mth 67, 1⟩, ⟨.int .i64 3, mth 68, 2⟩, ⟨.int .i64 4, mth 69, 3⟩, ⟨.int .i64 5, mth 70, 4⟩] 5 6 (mth 71) (by kernel_rfl)
 rw [show #[⟨.int .i64 1, mth 66, 0⟩, ⟨.int .i64 2, mth 67, 1⟩, ⟨.int .i64 3, mth 68, 2⟩, ⟨.int .i64 4, mth 69, 3⟩, ⟨.int .i64 5, mth 70, 4⟩].push ⟨.int .i64 6, mth 71, 5⟩ = (#[⟨.int .i64 1, mth 66, 0⟩, ⟨.int .i64 2, mth 67, 1⟩, ⟨.int .i64 3, mth 68, 2⟩, ⟨.int .i64 4, mth 69, 3⟩, ⟨.int .i64 5, mth 70, 4⟩, ⟨.int .i64 6, mth 71, 5⟩] : Array MapEntry) from rfl] at u6
 have u7 := upd_new w #[⟨.int .i64 1, mth 66, 0⟩, ⟨.int .i64 2, mth 67, 1⟩, ⟨.int .i64 3, mth 68, 2⟩, ⟨.int .i64 4, mth 69, 3⟩, ⟨.int .i64 5, mth 70, 4⟩, ⟨.int .i64 6, mth 71, 5⟩] 6 7 (mth 72) (by kernel_rfl)
 rw [show #[⟨.int .i64 1, mth 66, 0⟩, ⟨.int .i64 2, mth 67, 1⟩, ⟨.int .i64 3, mth 68, 2⟩, ⟨.int .i64 4, mth 69, 3⟩, ⟨.int .i64 5, mth 70, 4⟩, ⟨.int .i64 6, mth 71, 5⟩].push ⟨.int .i64 7, mth 72, 6⟩ = (#[⟨.int .i64 1, mth 66, 0⟩, ⟨.int .i64 2, mth 67, 1⟩, ⟨.int .i64 3, mth 68, 2⟩, ⟨.int .i64 4, mth 69, 3⟩, ⟨.int .i64 5, mth 70, 4⟩, ⟨.int .i64 6, mth 71, 5⟩, ⟨.int .i64 7, mth 72, 6⟩] : Array MapEntry) from rfl] at u7
 go_enter Tryd.func63, Tryd.ntmps63
 go_wp2_with fail
 go_ret
 exact ⟨_, rfl, Nat.le_refl _, heap_alloc_new w _, Still.alloc w _⟩
theorem len_acc {w : World} {b : Nat} (h : Acb w b) : (Builtin.len_ #[108] 3 #[.map (some b)]).run Tryd.prog w = .ok (.int .i64 7) w := by
 have h' : w.heap[b]? = some (.map acE 7) := h
 simp [Builtin.len_, run_underlying Tryd.underlying108, MapKept.run_getObj_map h', goInt, acE, Result.andThen]
def Vkb (w : World) (g : Nat) (s : ByteArray) (x : Value) : Prop := w.heap[g]? = some (.cells #[.string s, x] 97 (0, 0))
theorem Vkb.still {w w' : World} {g : Nat} {s : ByteArray} {x : Value} (h : Vkb w g s x) (hs : Still w w') : Vkb w' g s x := hs.kept_still h
theorem Vkb.cells {w : World} {g : Nat} {s : ByteArray} {x : Value} (h : Vkb w g s x) :
  w.cell? ⟨g, 0, none⟩ = some (.string s) /\ w.cell? ⟨g, 1, none⟩ = some x /\ ∀ o, w.frozen? ⟨g, o, none⟩ = false := by
 refine ⟨?_, ?_, fun o => frozen_of_row w g o _ _ h⟩ <;> (rw [cell_of_row _ _ _ _ _ _ h]; rfl)
abbrev newVk (w : World) (s : ByteArray) (x : Value) : World := w.alloc (.cells #[.string s, x] 97)
theorem newVk_vkb (w : World) (s : ByteArray) (x : Value) : Vkb (newVk w s x) w.heap.size s x := heap_alloc_new w _
theorem OwO.two {w : World} {g B : Nat} {s t : ByteArray} {x y x' y' : Int} (h : w.heap[g]? = some (.cells #[.string s, .int .i64 x, .int .i64 y, .string t, .int .i64 x', .int .i64 y'] 92 (0, 0))) (hB : B <= g) : OwO w B (.slice (some ⟨g, 0, none⟩) 2 2) [(s, x, y), (t, x', y')] :=
 ⟨rfl, .inr ⟨g, 2, _, rfl, hB, h, by simp, by simp [maxLen], rfl, rfl⟩⟩
theorem load_kind (w : World) (g : Nat) (s : ByteArray) (x : Value) (c0 : w.cell? ⟨g, 0, none⟩ = some (.string s)) (c1 : w.cell? ⟨g, 1, none⟩ = some x) : (loadVar 97 ⟨g, 0, none⟩).run Tryd.prog w = .ok (.agg #[.string s, x]) w := by
 go_simp
theorem Vkb.res {fn : Func} {p : Tmp} {w : World} {g : Nat} {s : ByteArray} {x : Value} (hb : Vkb w g s x) (h : fn.results = #[.cell p 97]) (tmps : Array Value) (hp : tmps.getD p undef = .pointer (some ⟨g, 0, none⟩)) :
  (results fn tmps).run Tryd.prog w = .ok (.agg #[.string s, x]) w := by
 have hp' : tmps[p]?.getD undef = .pointer (some ⟨g, 0, none⟩) := by simpa using hp
 simp [results, h, hp', asAddr, load_kind w g s x hb.cells.1 hb.cells.2.1]
theorem sz (w : World) (o : Obj) : (w.alloc o).heap.size = w.heap.size + 1 := by simp
theorem vthree (w : World) (s : ByteArray) (x : Value) (b o : Obj) : Vkb (((w.alloc b).alloc (.cells #[.string s, x] 97)).alloc o) (w.heap.size + 1) s x /\ (((w.alloc b).alloc (.cells #[.string s, x] 97)).alloc o).heap[w.heap.size + 1 + 1]? = some o /\ Still w (((w.alloc b).alloc (.cells #[.string s, x] 97)).alloc o) := by
 have h1 := newVk_vkb (w.alloc b) s x
 rw [sz] at h1
 have h2 := heap_alloc_new ((w.alloc b).alloc (.cells #[.string s, x] 97)) o
 rw [sz, sz] at h2
 exact ⟨h1.still (Still.alloc _ o), h2, ((Still.alloc w b).trans (Still.alloc _ _)).trans (Still.alloc _ o)⟩
theorem steer_any (w : World) : Calls Tryd.prog 66 #[.agg #[]] w fun e w' => ∃ x, e = .returned (.agg #[.string (nmV 1), x]) /\ OwO w' w.heap.size x (opV 1) /\ Still w w' := by
 go_enter Tryd.func66, Tryd.ntmps66
 go_wp2_with fail
 obtain ⟨h1, h2, h3⟩ := vthree w (nmV 1) (.slice (some ⟨w.heap.size + 1 + 1, 0, none⟩) 2 2) (.cells #[] 111) (.cells (opsOf (opV 1)).toArray 92)
 exact bodyPost_ret (h1.res rfl _ rfl) rfl ⟨_, rfl, OwO.two h2 (by omega), h3⟩
theorem halt_any (w : World) : Calls Tryd.prog 67 #[.agg #[]] w fun e w' => ∃ x, e = .returned (.agg #[.string (nmV 2), x]) /\ OwO w' w.heap.size x (opV 2) /\ Still w w' := by
 go_enter Tryd.func67, Tryd.ntmps67
 go_wp2_with fail
 have h1 := newVk_vkb (w.alloc (.cells #[] 111)) (nmV 2) (.slice none 0 0)
 rw [sz] at h1
 exact bodyPost_ret (h1.res rfl _ rfl) rfl ⟨_, rfl, OwO.nil _ _, (Still.alloc w _).trans (Still.alloc _ _)⟩
theorem aim_any (w : World) : Calls Tryd.prog 68 #[.agg #[]] w fun e w' => ∃ x, e = .returned (.agg #[.string (nmV 3), x]) /\ OwO w' w.heap.size x (opV 3) /\ Still w w' := by
 go_enter Tryd.func68, Tryd.ntmps68
 go_wp2_with fail
 obtain ⟨h1, h2, h3⟩ := vthree w (nmV 3) (.slice (some ⟨w.heap.size + 1 + 1, 0, none⟩) 1 1) (.cells #[] 111) (.cells (opsOf (opV 3)).toArray 92)
 exact bodyPost_ret (h1.res rfl _ rfl) rfl ⟨_, rfl, OwO.one h2 (by omega), h3⟩
theorem vfire_any (w : World) : Calls Tryd.prog 69 #[.agg #[]] w fun e w' => ∃ x, e = .returned (.agg #[.string (nmV 4), x]) /\ OwO w' w.heap.size x (opV 4) /\ Still w w' := by
 go_enter Tryd.func69, Tryd.ntmps69
 go_wp2_with fail
 obtain ⟨h1, h2, h3⟩ := vthree w (nmV 4) (.slice (some ⟨w.heap.size + 1 + 1, 0, none⟩) 1 1) (.cells #[] 111) (.cells (opsOf (opV 4)).toArray 92)
 exact bodyPost_ret (h1.res rfl _ rfl) rfl ⟨_, rfl, OwO.one h2 (by omega), h3⟩
theorem shield_any (w : World) : Calls Tryd.prog 70 #[.agg #[]] w fun e w' => ∃ x, e = .returned (.agg #[.string (nmV 5), x]) /\ OwO w' w.heap.size x (opV 5) /\ Still w w' := by
 go_enter Tryd.func70, Tryd.ntmps70
 go_wp2_with fail
 obtain ⟨h1, h2, h3⟩ := vthree w (nmV 5) (.slice (some ⟨w.heap.size + 1 + 1, 0, none⟩) 1 1) (.cells #[] 111) (.cells (opsOf (opV 5)).toArray 92)
 exact bodyPost_ret (h1.res rfl _ rfl) rfl ⟨_, rfl, OwO.one h2 (by omega), h3⟩
theorem dash_any (w : World) : Calls Tryd.prog 71 #[.agg #[]] w fun e w' => ∃ x, e = .returned (.agg #[.string (nmV 6), x]) /\ OwO w' w.heap.size x (opV 6) /\ Still w w' := by
 go_enter Tryd.func71, Tryd.ntmps71
 go_wp2_with fail
 obtain ⟨h1, h2, h3⟩ := vthree w (nmV 6) (.slice (some ⟨w.heap.size + 1 + 1, 0, none⟩) 1 1) (.cells #[] 111) (.cells (opsOf (opV 6)).toArray 92)
 exact bodyPost_ret (h1.res rfl _ rfl) rfl ⟨_, rfl, OwO.one h2 (by omega), h3⟩
theorem say_any (w : World) : Calls Tryd.prog 72 #[.agg #[]] w fun e w' => ∃ x, e = .returned (.agg #[.string (nmV 7), x]) /\ OwO w' w.heap.size x (opV 7) /\ Still w w' := by
 go_enter Tryd.func72, Tryd.ntmps72
 go_wp2_with fail
 obtain ⟨h1, h2, h3⟩ := vthree w (nmV 7) (.slice (some ⟨w.heap.size + 1 + 1, 0, none⟩) 1 1) (.cells #[] 111) (.cells (opsOf (opV 7)).toArray 92)
 exact bodyPost_ret (h1.res rfl _ rfl) rfl ⟨_, rfl, OwO.one h2 (by omega), h3⟩
end Go.Proofs.YtnbofjaecchnaaaDoor
namespace Go.Proofs.YtnbofjaecchnaaaDoor
open Go.RowKit Go.Shelf
open Vp
set_option maxRecDepth 100000
theorem Vkb.lt {w : World} {g : Nat} {s : ByteArray} {x : Value} (h : Vkb w g s x) : g < w.heap.size := block_lt h
theorem look_acc {w : World} {b : Nat} (h : Acb w b) (v : Int) (k : Nat) (z : Value) (hf : Instr.findNow (.int .i64) (.int .i64 v) acE.toList 0 = some (some (k, z))) (ok : Bool) :
  (Instr.lookup 108 (.map (some b)) (.int .i64 v) ok).run Tryd.prog w = .ok (if ok then .tuple #[z, .bool true] else z) w := by
 have h' : w.heap[b]? = some (.map acE 7) := h
 cases ok <;> simp [Instr.lookup, run_underlying Tryd.underlying108, MapKept.run_getObj_map h', chk_key, find_key v _ _ hf, Result.andThen]
theorem look_no {w : World} {b : Nat} (h : Acb w b) (v : Int) (hv : isV v = false) :
  ∃ z, (Instr.lookup 108 (.map (some b)) (.int .i64 v) true).run Tryd.prog w = .ok (.tuple #[z, .bool false]) w := by
 have h' : w.heap[b]? = some (.map acE 7) := h
 have hf : Instr.findNow (.int .i64) (.int .i64 v) acE.toList 0 = some none := by
  have := isV_no.1 hv
  have e : ∀ n : Int, 1 <= n -> n <= 7 -> (v == n) = false := fun n h1 h2 => by simp; omega
  simp [acE, Instr.findNow, Instr.sameNow, e 1, e 2, e 3, e 4, e 5, e 6, e 7]
 have hz : ∃ z, (zeroValue 106).run Tryd.prog w = .ok z w := ⟨.nilFunc, by go_simp⟩
 obtain ⟨z, hz⟩ := hz
 refine ⟨z, ?_⟩
 simp [Instr.lookup, run_underlying Tryd.underlying108, MapKept.run_getObj_map h', chk_key, find_key v _ _ hf, Result.andThen, hz]
theorem Vkb.rest {fn : Func} {p q : Tmp} {w : World} {g : Nat} {s : ByteArray} {x : Value} (hb : Vkb w g s x) (h : fn.results = #[.cell p 97, .tmp q]) (tmps : Array Value) (t : Value) (hp : tmps.getD p undef = .pointer (some ⟨g, 0, none⟩)) (hq : tmps.getD q undef = t) :
  (results fn tmps).run Tryd.prog w = .ok (.tuple #[.agg #[.string s, x], t]) w := by
 rw [results_cell_tmp h, hp, hq]
 simp [asAddr, Result.andThen, load_kind w g s x hb.cells.1 hb.cells.2.1]
abbrev setK (w : World) (g : Nat) (s : ByteArray) (x : Value) : World := (w.setCell ⟨g, 0, none⟩ (.string s)).setCell ⟨g, 1, none⟩ x
theorem Vkb.set {w : World} {g : Nat} {s : ByteArray} {x : Value} (h : Vkb w g s x) (s' : ByteArray) (x' : Value) : Vkb (setK w g s' x') g s' x' := by
 unfold Vkb
 have h1 := heap_setCell_same w g 0 _ _ (.string s') h
 have h2 := heap_setCell_same _ g 1 _ _ x' h1
 rw [h2]; rfl
theorem setK_fr {F : Nat -> Prop} {y w : World} (h : Fr F y w) (g : Nat) (s : ByteArray) (x : Value) (hb : F g \/ y.heap.size <= g) : Fr F y (setK w g s x) := (h.setCell _ _ hb).setCell _ _ hb
theorem kind_no (v : Int) (hv : isV v = false) (w : World) : Calls Tryd.prog 57 #[.int .i64 v] w fun e w' => e = .returned (.tuple #[.agg #[.string ByteArray.empty, .slice none 0 0], .bool false]) /\ Still w w' := by
 have q := newVk_vkb w ByteArray.empty (.slice none 0 0)
 have HS0 := hid (Still.alloc w (.cells #[.string ByteArray.empty, .slice none 0 0] 97))
 go_enter Tryd.func57, Tryd.ntmps57
 go_wp2_with fail
 refine (acc_any _).mono ?_
 rintro e w1 ⟨b, rfl, hb, ha, h1⟩
 obtain ⟨z, hl⟩ := look_no ha v hv
 have q1 := q.still h1
 have HS1 := hid (HS0.out.trans h1)
 obtain ⟨c0, c1, cf⟩ := q1.cells
 clear h1 hb HS0 q hv
 go_wp2_with fail
 exact bodyPost_ret ((q1.set _ _).rest rfl _ _ rfl rfl) rfl ⟨rfl, setK_fr HS1.out _ _ _ (.inr (Nat.le_refl _))⟩
theorem meth {v : Int} (hv : isV v = true) : ∃ f, (∀ w b, Acb w b -> ∀ ok, (Instr.lookup 108 (.map (some b)) (.int .i64 v) ok).run Tryd.prog w = .ok (if ok then .tuple #[mth f, .bool true] else mth f) w) /\
  (∀ args w, (callFunc f args).run Tryd.prog w = .ok (.enter f args) w) /\
  (∀ w, Calls Tryd.prog f #[.agg #[]] w fun e w' => ∃ x, e = .returned (.agg #[.string (nmV v), x]) /\ OwO w' w.heap.size x (opV v) /\ Still w w') := by
 rcases verbs hv with rfl | rfl | rfl | rfl | rfl | rfl | rfl
 ·exact ⟨66, fun w b h ok => look_acc h 1 0 _ rfl ok, enters_of Tryd.func66 (by kernel_rfl) rfl, steer_any⟩
 ·exact ⟨67, fun w b h ok => look_acc h 2 1 _ rfl ok, enters_of Tryd.func67 (by kernel_rfl) rfl, halt_any⟩
 ·exact ⟨68, fun w b h ok => look_acc h 3 2 _ rfl ok, enters_of Tryd.func68 (by kernel_rfl) rfl, aim_any⟩
 ·exact ⟨69, fun w b h ok => look_acc h 4 3 _ rfl ok, enters_of Tryd.func69 (by kernel_rfl) rfl, vfire_any⟩
 ·exact ⟨70, fun w b h ok => look_acc h 5 4 _ rfl ok, enters_of Tryd.func70 (by kernel_rfl) rfl, shield_any⟩
 ·exact ⟨71, fun w b h ok => look_acc h 6 5 _ rfl ok, enters_of Tryd.func71 (by kernel_rfl) rfl, dash_any⟩
 ·exact ⟨72, fun w b h ok => look_acc h 7 6 _ rfl ok, enters_of Tryd.func72 (by kernel_rfl) rfl, say_any⟩
theorem kind_is (v : Int) (hv : isV v = true) (w : World) : Calls Tryd.prog 57 #[.int .i64 v] w fun e w' => ∃ x, e = .returned (.tuple #[.agg #[.string (nmV v), x], .bool true]) /\ OwO w' w.heap.size x (opV v) /\ Still w w' := by
 have q := newVk_vkb w ByteArray.empty (.slice none 0 0)
 have HS0 := hid (Still.alloc w (.cells #[.string ByteArray.empty, .slice none 0 0] 97))
 obtain ⟨f, hl, ef, hm⟩ := meth hv
 have HL := hid hl
 have HM := hid hm
 clear hl hm hv
 go_enter Tryd.func57, Tryd.ntmps57
 go_wp2_with fail
 refine (acc_any _).mono ?_
 rintro e w1 ⟨b, rfl, hb, ha, h1⟩
 have hl := HL.out _ _ ha true
 have q1 := q.still h1
 have HS1 := hid (HS0.out.trans h1)
 clear h1 hb HS0 q
 go_wp2_with fail
 refine (HM.out _).mono ?_
 rintro e w2 ⟨x, rfl, ho, h2⟩
 obtain ⟨ao, cap, rfl, hao⟩ := ho.slice
 have q2 := q1.still h2
 have HS2 := hid (HS1.out.trans h2)
 have HO := hid (And.intro ho (And.intro HS1.out.size q1.lt))
 obtain ⟨c0, c1, cf⟩ := q2.cells
 clear h2 HS1 q1 ho hao
 go_wp2_with fail
 refine bodyPost_ret ((q2.set _ _).rest rfl _ _ rfl rfl) rfl ⟨_, rfl, ?_, setK_fr HS2.out _ _ _ (.inr (Nat.le_refl _))⟩
 obtain ⟨h1, h2, h3⟩ := HO.out
 refine (h1.keep (setK_fr (F := fun k => k = w.heap.size) (Fr.refl _ _) _ _ _ (.inl rfl)) ?_).less h2
 rintro k rfl e
 have := (h1.block e).1
 omega
theorem kind_any (v : Int) (w : World) : Calls Tryd.prog 57 #[.int .i64 v] w fun e w' => ∃ ao n cap, e = .returned (.tuple #[.agg #[.string (nmV v), .slice ao n cap], .bool (isV v)]) /\ OwO w' w.heap.size (.slice ao n cap) (opV v) /\ Still w w' := by
 cases hv : isV v with
 | true =>
  refine (kind_is v hv w).mono ?_
  rintro e w' ⟨x, rfl, ho, hs⟩
  obtain ⟨ao, cap, rfl, hao⟩ := ho.slice
  exact ⟨_, _, _, rfl, ho, hs⟩
 | false =>
  refine (kind_no v hv w).mono ?_
  rintro e w' ⟨rfl, hs⟩
  have e1 : nmV v = ByteArray.empty := by unfold nmV; rw [hv]; rfl
  have e2 : opV v = [] := by unfold opV; rw [hv]; rfl
  exact ⟨none, 0, 0, by rw [e1], by rw [e2]; exact OwO.nil _ _, hs⟩
end Go.Proofs.YtnbofjaecchnaaaDoor
namespace Go.Proofs.YtnbofjaecchnaaaDoor
open Go.RowKit
open Vp
set_option maxRecDepth 100000
def N3 (w : World) (g : Nat) (a b c : Int) : Prop := w.heap[g]? = some (.cells #[.int .i64 a, .int .i64 b, .int .i64 c] 90 (0, 0))
theorem N3.still {w w' : World} {g : Nat} {a b c : Int} (h : N3 w g a b c) (hs : Still w w') : N3 w' g a b c := hs.kept_still h
theorem N3.cells {w : World} {g : Nat} {a b c : Int} (h : N3 w g a b c) :
  w.cell? ⟨g, 0, none⟩ = some (.int .i64 a) /\ w.cell? ⟨g, 1, none⟩ = some (.int .i64 b) /\ w.cell? ⟨g, 2, none⟩ = some (.int .i64 c) /\ ∀ o, w.frozen? ⟨g, o, none⟩ = false := by
 refine ⟨?_, ?_, ?_, fun o => frozen_of_row w g o _ _ h⟩ <;> (rw [cell_of_row _ _ _ _ _ _ h]; rfl)
theorem newN3 (w : World) (a b c : Int) : N3 (w.alloc (.cells #[.int .i64 a, .int .i64 b, .int .i64 c] 90)) w.heap.size a b c := heap_alloc_new w _
abbrev n3 (a b c : Int) : Value := .agg #[.int .i64 a, .int .i64 b, .int .i64 c]
theorem load_n3 (w : World) (g : Nat) (a b c : Int) (c0 : w.cell? ⟨g, 0, none⟩ = some (.int .i64 a)) (c1 : w.cell? ⟨g, 1, none⟩ = some (.int .i64 b)) (c2 : w.cell? ⟨g, 2, none⟩ = some (.int .i64 c)) : (loadVar 90 ⟨g, 0, none⟩).run Tryd.prog w = .ok (n3 a b c) w := by
 go_simp
theorem N3.res {fn : Func} {p : Tmp} {w : World} {g : Nat} {a b c : Int} (hb : N3 w g a b c) (h : fn.results = #[.cell p 90]) (tmps : Array Value) (hp : tmps.getD p undef = .pointer (some ⟨g, 0, none⟩)) :
  (results fn tmps).run Tryd.prog w = .ok (n3 a b c) w := by
 have hp' : tmps[p]?.getD undef = .pointer (some ⟨g, 0, none⟩) := by simpa using hp
 simp [results, h, hp', asAddr, load_n3 w g a b c hb.cells.1 hb.cells.2.1 hb.cells.2.2.1]
theorem numbers_any (v a b c : Int) (w : World) : Calls Tryd.prog 58 #[od v a b c] w fun e w' => e = .returned (n3 a b c) /\ Still w w' := by
 have p := newO_orb w v a b c
 have HS0 := hid (Still.alloc w (.cells #[.int .i64 v, .int .i64 a, .int .i64 b, .int .i64 c] 34))
 go_enter Tryd.func58, Tryd.ntmps58
 go_wp2_with fail
 have h := newN3 (newO w v a b c) a b c
 rw [sz] at h
 exact bodyPost_ret (h.res rfl _ rfl) rfl ⟨rfl, HS0.out.trans (Still.alloc _ _)⟩
abbrev opw (s : ByteArray) (x y : Int) : Value := .agg #[.string s, .int .i64 x, .int .i64 y]
theorem load_opb (w : World) (g o : Nat) (s : ByteArray) (x y : Int) (c0 : w.cell? ⟨g, o, none⟩ = some (.string s)) (c1 : w.cell? ⟨g, o + 1, none⟩ = some (.int .i64 x)) (c2 : w.cell? ⟨g, o + 2, none⟩ = some (.int .i64 y)) : (loadVar 92 ⟨g, o, none⟩).run Tryd.prog w = .ok (opw s x y) w := by
 go_simp
theorem Opb.res {fn : Func} {p : Tmp} {w : World} {g : Nat} {s : ByteArray} {x y : Int} (hb : Opb w g s x y) (h : fn.results = #[.cell p 92]) (tmps : Array Value) (hp : tmps.getD p undef = .pointer (some ⟨g, 0, none⟩)) :
  (results fn tmps).run Tryd.prog w = .ok (opw s x y) w := by
 have hp' : tmps[p]?.getD undef = .pointer (some ⟨g, 0, none⟩) := by simpa using hp
 simp [results, h, hp', asAddr, load_opb w g 0 s x y hb.cells.1 hb.cells.2.1 hb.cells.2.2.1]
abbrev setOp (w : World) (g : Nat) (s : ByteArray) (x y : Int) : World := ((w.setCell ⟨g, 0, none⟩ (.string s)).setCell ⟨g, 1, none⟩ (.int .i64 x)).setCell ⟨g, 2, none⟩ (.int .i64 y)
theorem vat_in (s0 : ByteArray) (ao : Option Addr) (n cap : Nat) (ps : List (ByteArray × Int × Int)) (k : Nat) (hk : k < ps.length) (hk2 : k < 3) (B : Nat) (w : World) (ho : OwO w B (.slice ao n cap) ps) :
  Calls Tryd.prog 59 #[.agg #[.string s0, .slice ao n cap], .int .i64 (k : Int)] w fun e w' => e = .returned (opw ps[k].1 ps[k].2.1 ps[k].2.2) /\ Still w w' := by
 obtain ⟨g, cap', e, hB, hg⟩ := ho.head (by omega)
 cases e
 obtain ⟨d0, d1, d2, df⟩ := ho.cell k hk
 have hki : (k : Int) < (ps.length : Int) := by omega
 have HS0 := hid (Still.alloc w (.cells #[.string s0, .slice (some ⟨g, 0, none⟩) ps.length cap] 97))
 obtain ⟨x0, ex0⟩ : ∃ x, ps[k].1 = x := ⟨_, rfl⟩
 obtain ⟨x1, ex1⟩ : ∃ x, ps[k].2.1 = x := ⟨_, rfl⟩
 obtain ⟨x2, ex2⟩ : ∃ x, ps[k].2.2 = x := ⟨_, rfl⟩
 rw [ex0] at d0 ⊢
 rw [ex1] at d1 ⊢
 rw [ex2] at d2 ⊢
 clear ex0 ex1 ex2 ho
 go_enter Tryd.func59, Tryd.ntmps59
 go_wp2_with fail
 have h := newOp_opb (newVk w s0 (.slice (some ⟨g, 0, none⟩) ps.length cap)) x0 x1 x2
 rw [sz] at h
 exact bodyPost_ret (h.res rfl _ rfl) rfl ⟨rfl, HS0.out.trans (Still.alloc _ _)⟩
theorem at_out (s0 : ByteArray) (ao : Option Addr) (n cap : Nat) (k : Nat) (hk : n <= k) (w : World) :
  Calls Tryd.prog 59 #[.agg #[.string s0, .slice ao n cap], .int .i64 (k : Int)] w fun e w' => e = .returned (opw ByteArray.empty 0 0) /\ Still w w' := by
 have hki : ¬ (k : Int) < (n : Int) := by omega
 have HS0 := hid (Still.alloc w (.cells #[.string s0, .slice ao n cap] 97))
 go_enter Tryd.func59, Tryd.ntmps59
 go_wp2_with fail
 have h := newOp_opb (newVk w s0 (.slice ao n cap)) ByteArray.empty 0 0
 rw [sz] at h
 exact bodyPost_ret (h.res rfl _ rfl) rfl ⟨rfl, HS0.out.trans (Still.alloc _ _)⟩
def rg (ps : List (ByteArray × Int × Int)) (k : Nat) : ByteArray × Int × Int := ps.getD k (ByteArray.empty, 0, 0)
theorem vat_any (s0 : ByteArray) (ao : Option Addr) (n cap : Nat) (ps : List (ByteArray × Int × Int)) (k : Nat) (hk2 : k < 3) (B : Nat) (w : World) (ho : OwO w B (.slice ao n cap) ps) :
  Calls Tryd.prog 59 #[.agg #[.string s0, .slice ao n cap], .int .i64 (k : Int)] w fun e w' => e = .returned (opw (rg ps k).1 (rg ps k).2.1 (rg ps k).2.2) /\ Still w w' := by
 obtain ⟨ao', cap', e, _⟩ := ho.slice
 cases e
 by_cases hk : k < ps.length
 ·have e : rg ps k = ps[k] := by unfold rg; simp [hk]
  rw [e]
  exact vat_in s0 ao _ cap ps k hk hk2 B w ho
 ·have e : rg ps k = (ByteArray.empty, 0, 0) := by unfold rg; rw [List.getD_eq_getElem?_getD, List.getElem?_eq_none (by omega)]; rfl
  rw [e]
  exact at_out s0 ao _ cap k (by omega) w
theorem ix3 (a b c : Int) (k : Nat) (h : k < 3) (w : World) : (Instr.index 90 (n3 a b c) (.int .i64 (k : Int))).run Tryd.prog w = .ok (.int .i64 (gv a b c k)) w := by
 have hs : (sizeOf 3).run Tryd.prog w = .ok 1 w := by go_simp
 have ha : (isAgg 3).run Tryd.prog w = .ok false w := by go_simp
 match k, h with
 | 0, _ => simp [Instr.index, asIntOf, run_underlying Tryd.underlying90, part, hs, ha, gv, Result.andThen]
 | 1, _ => simp [Instr.index, asIntOf, run_underlying Tryd.underlying90, part, hs, ha, gv, Result.andThen]
 | 2, _ => simp [Instr.index, asIntOf, run_underlying Tryd.underlying90, part, hs, ha, gv, Result.andThen]
def inr (v : Int) (k : Nat) (n : Int) : Prop := (rg (opV v) k).2.1 <= n /\ n <= (rg (opV v) k).2.2
theorem ok_in {v a b c : Int} (hv : isV v = true) : okO v a b c = true ↔ inr v 0 a /\ inr v 1 b /\ inr v 2 c := by
 unfold okO inr rg opV
 rw [hv]
 rcases verbs hv with rfl | rfl | rfl | rfl | rfl | rfl | rfl <;> simp [lo, hi, loL, hiL] <;> omega
theorem chk_no {v : Int} (hv : isV v = false) (a b c : Int) : chkO v a b c = 70 := by unfold chkO; rw [hv]; rfl
theorem chk_in0 {v a b c : Int} (hv : isV v = true) (h : ∀ k, k < 3 -> inr v k (gv a b c k)) : chkO v a b c = 0 := by
 unfold chkO
 have e : okO v a b c = true := (ok_in hv).2 ⟨h 0 (by omega), h 1 (by omega), h 2 (by omega)⟩
 rw [if_pos hv, if_pos e]
theorem chk_out {v a b c : Int} (hv : isV v = true) {k : Nat} (hk : k < 3) (h : ¬ inr v k (gv a b c k)) : chkO v a b c = 71 := by
 unfold chkO
 rw [if_pos hv, if_neg ?_]
 intro e
 obtain ⟨h0, h1, h2⟩ := (ok_in hv).1 e
 match k, hk, h with
 | 0, _, h => exact h h0
 | 1, _, h => exact h h1
 | 2, _, h => exact h h2
theorem vcheck_no (v a b c : Int) (hv : isV v = false) (w : World) : Calls Tryd.prog 48 #[od v a b c] w fun e w' => e = .returned (.int .i64 70) /\ Still w w' := by
 have p := newO_orb w v a b c
 have HS0 := hid (Still.alloc w (.cells #[.int .i64 v, .int .i64 a, .int .i64 b, .int .i64 c] 34))
 obtain ⟨c0, c1, c2, c3, cf⟩ := p.cells
 go_enter Tryd.func48, Tryd.ntmps48
 go_wp2_with fail
 refine (kind_any v _).mono ?_
 rintro e w1 ⟨ao, n, cap, rfl, ho, h1⟩
 rw [hv]
 have HS1 := hid ((HS0.out.trans h1).trans (Still.alloc w1 (.cells #[.string (nmV v), .slice ao n cap] 97)))
 clear h1 ho HS0
 go_wp2_with fail
 go_ret
 exact ⟨rfl, HS1.out⟩
set_option maxHeartbeats 4000000 in
theorem vcheck_is (v a b c : Int) (hv : isV v = true) (w : World) : Calls Tryd.prog 48 #[od v a b c] w fun e w' => e = .returned (.int .i64 (chkO v a b c)) /\ Still w w' := by
 have p := newO_orb w v a b c
 have HS0 := hid (Still.alloc w (.cells #[.int .i64 v, .int .i64 a, .int .i64 b, .int .i64 c] 34))
 have HI := hid (fun h => chk_in0 (a := a) (b := b) (c := c) hv h)
 have HO := hid (fun (k : Nat) (hk : k < 3) h => chk_out (a := a) (b := b) (c := c) hv hk h)
 obtain ⟨c0, c1, c2, c3, cf⟩ := p.cells
 obtain ⟨x, ex⟩ : ∃ x, chkO v a b c = x := ⟨_, rfl⟩
 rw [ex] at HI HO ⊢
 clear ex
 go_enter Tryd.func48, Tryd.ntmps48
 go_wp2_with fail
 refine (kind_any v _).mono ?_
 rintro e w1 ⟨ao, n, cap, rfl, ho, h1⟩
 rw [hv]
 have A1 := Still.alloc w1 (.cells #[.string (nmV v), .slice ao n cap] 97)
 have p1 := (p.still h1).still A1
 have q1 := newVk_vkb w1 (nmV v) (.slice ao n cap)
 have HW := hid (ho.still A1)
 have HS1 := hid ((HS0.out.trans h1).trans A1)
 have hb1 : w1.heap.size = w1.heap.size := rfl
 clear h1 ho HS0 A1 p hb1 c0 c1 c2 c3 cf hv
 obtain ⟨c0, c1, c2, c3, cf⟩ := p1.cells
 go_wp2_with fail
 refine (numbers_any v a b c _).mono ?_
 rintro e w2 ⟨rfl, h2⟩
 have q2 := q1.still h2
 have HW2 := hid (HW.out.still h2)
 have HS2 := hid (HS1.out.trans h2)
 clear h2 HS1 HW q1 p1 c0 c1 c2 c3 cf
 go_wp2_with fail
 go_loopw [18] (fun i wr => ∃ k : Nat, k <= 3 /\ i = .int .i64 (k : Int) /\ Hid (∀ j, j < k -> inr v j (gv a b c j)) /\ Still w2 wr) (fun i _ => 3 - (intOf i).toNat)
 case atStart => exact ⟨0, by omega, rfl, hid (fun j h => by omega), Fr.refl _ _⟩
 case round =>
  obtain ⟨k, hk, rfl, HF, hs⟩ := hrel
  have q3 := q2.still hs
  have HW3 := hid (HW2.out.still hs)
  have HS3 := hid (HS2.out.trans hs)
  have HSr := hid hs
  clear hs HS2 HW2 q2
  obtain ⟨k0, k1, kf⟩ := q3.cells
  by_cases h3 : k < 3
  ·have hix := ix3 a b c k h3
   have hki : (k : Int) < 3 := by omega
   have HA := hid (vat_any (nmV v) ao n cap (opV v) k h3 _ wr HW3.out)
   have HE : Hid ((rg (opV v) k).2.1 <= gv a b c k -> gv a b c k <= (rg (opV v) k).2.2 -> ∀ j, j < k + 1 -> inr v j (gv a b c j)) := hid (fun y1 y2 j hj => by
    by_cases e : j = k
    ·subst e; exact ⟨y1, y2⟩
    ·exact HF.out j (by omega))
   have HX : Hid (¬ ((rg (opV v) k).2.1 <= gv a b c k /\ gv a b c k <= (rg (opV v) k).2.2) -> x = 71) := hid (HO.out k h3)
   obtain ⟨y, ey⟩ : ∃ y, gv a b c k = y := ⟨_, rfl⟩
   obtain ⟨r0, er0⟩ : ∃ y, (rg (opV v) k).1 = y := ⟨_, rfl⟩
   obtain ⟨r1, er1⟩ : ∃ y, (rg (opV v) k).2.1 = y := ⟨_, rfl⟩
   obtain ⟨r2, er2⟩ : ∃ y, (rg (opV v) k).2.2 = y := ⟨_, rfl⟩
   rw [er0, er1, er2] at HA
   rw [er1, er2, ey] at HE HX
   rw [ey] at hix
   clear er0 er1 er2 ey HF
   go_wp2_with fail
   refine HA.out.mono ?_
   rintro e w4 ⟨rfl, h4⟩
   have o4 := newOp_opb w4 r0 r1 r2
   have A4 := Still.alloc w4 (.cells #[.string r0, .int .i64 r1, .int .i64 r2] 92)
   have HS4 := hid ((HS3.out.trans h4).trans A4)
   have HR4 := hid ((HSr.out.trans h4).trans A4)
   obtain ⟨d0, d1, d2, df⟩ := o4.cells
   clear h4 A4 HS3 HSr HA HW3 hix
   by_cases g1 : y < r1
   ·go_wp2_with fail
    go_ret
    exact ⟨by rw [HX.out (by omega)]; rfl, HS4.out⟩
   ·by_cases g2 : r2 < y
    ·go_wp2_with fail
     go_ret
     exact ⟨by rw [HX.out (by omega)]; rfl, HS4.out⟩
    ·have g3 : ¬ y > r2 := g2
     go_wp2_with fail
     go_roundw
     case measure => simp [intOf]; omega
     case rel => exact ⟨k + 1, by omega, by simp, hid (HE.out (by omega) (by omega)), HR4.out⟩
  ·obtain rfl : k = 3 := by omega
   have e := HI.out HF.out
   go_wp2_with fail
   go_ret
   exact ⟨by rw [e]; rfl, HS3.out⟩
theorem vcheck_any (v a b c : Int) (w : World) : Calls Tryd.prog 48 #[od v a b c] w fun e w' => e = .returned (.int .i64 (chkO v a b c)) /\ Still w w' := by
 cases hv : isV v with
 | true => exact vcheck_is v a b c hv w
 | false => rw [chk_no hv]; exact vcheck_no v a b c hv w
end Go.Proofs.YtnbofjaecchnaaaDoor
