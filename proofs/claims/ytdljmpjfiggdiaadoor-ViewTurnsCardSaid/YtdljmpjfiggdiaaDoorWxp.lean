/- Arguments opened: counters, notes, scores, worlds (with their numbers' bounds); what a row's list of variables gives of the tables. -/
import Derived.Test.YtdljmpjfiggdiaaDoorGb
import Derived.Test.YtdljmpjfiggdiaaDoorWvi
import Derived.Test.YtdljmpjfiggdiaaDoorWxe
import Derived.Lib.LaidU8
import Derived.Lib.LaidTab
import Derived.LaidMore
import Derived.Stop.Joined
import Derived.Stop.LaidErr
import Derived.Lay
namespace Go.Proofs.YtdljmpjfiggdiaaDoor
open Go.ChangeShapes Go.WideShapes Go.ChangeAt Go.RowKit Go.Deep
open Pu Gp Np Za Ka Ja Ea Ha
set_option maxRecDepth 100000

theorem cellsV_int : Tryd.prog.cellsOf 3 = 1 := by kernel_rfl
theorem cellsV_i64 : Tryd.prog.cellsOf 2 = 1 := by kernel_rfl
theorem cellsV_str : Tryd.prog.cellsOf 9 = 1 := by kernel_rfl
theorem cellsV_bool : Tryd.prog.cellsOf 4 = 1 := by kernel_rfl
theorem cellsV_pt : Tryd.prog.cellsOf 35 = 2 := by kernel_rfl
theorem cellsV_mv : Tryd.prog.cellsOf 52 = 13 := by kernel_rfl
theorem cellsV_sc : Tryd.prog.cellsOf 54 = 4 := by kernel_rfl
theorem cellsV_ct : Tryd.prog.cellsOf 46 = 9 := by kernel_rfl
theorem cellsV_nv : Tryd.prog.cellsOf 50 = 3 := by kernel_rfl
theorem cellsV_wd : Tryd.prog.cellsOf 27 = 6 := by kernel_rfl
theorem cellsV_lm : Tryd.prog.cellsOf 22 = 1 := by kernel_rfl
theorem cellsV_lc : Tryd.prog.cellsOf 23 = 1 := by kernel_rfl
theorem cellsV_ls : Tryd.prog.cellsOf 24 = 1 := by kernel_rfl
theorem cellsV_lp : Tryd.prog.cellsOf 25 = 1 := by kernel_rfl
theorem cellsV_pk : Tryd.prog.cellsOf 78 = 2 := by kernel_rfl
theorem listV9 {α : Type} {l : List α} (h : l.length = 9) : ∃ a b c d e f g i j, l = [a, b, c, d, e, f, g, i, j] := by
  match l, h with
  | [a, b, c, d, e, f, g, i, j], _ => exact ⟨a, b, c, d, e, f, g, i, j, rfl⟩
theorem weights_allV {H : Type} {ts : List TypeId} {ds : List (DataW H)} (h : (DataW.weightsEach Tryd.prog ts ds).all (· ≤ reachBytes) = true) {j : Nat} {t : TypeId} {d : DataW H} (ht : ts[j]? = some t) (hd : ds[j]? = some d) : ∀ n ∈ d.weights Tryd.prog t, n ≤ reachBytes := fun n hn => by
  have := List.all_eq_true.1 h _ (DataW.weights_mem_each ht hd _ hn)
  simpa using this
section
variable {H : Type} {enc : TypeId × Value → H} {w : World}
theorem one_nvV {fuel : Nat} {cs : List Value} {x : DataW H × List MemPlace} (hl : cs.length = 3) (h : DataW.trod enc Tryd.prog w 0 (fun _ => true) true fuel 50 cs = some x) : ∃ y : Nv, cs = KNv.f y ∧ (I64 y.a ∧ I64 y.b) := by
  obtain ⟨x0, x1, x2, rfl⟩ := listG3 hl
  obtain ⟨xs, n, _, _, _, hlen, hfl⟩ := DataW.trod_struct Tryd.underlying50 h
  obtain ⟨z0, z1, z2, rfl⟩ := listG3 (l := xs) (by simpa using hlen)
  have g0 := hfl 0 _ rfl
  have g1 := hfl 1 _ rfl
  have g2 := hfl 2 _ rfl
  simp [cellsV_int] at g0 g1 g2
  obtain ⟨a, e0, _, _⟩ := DataW.trod_int Tryd.underlying3 g0
  obtain ⟨b, e1, _, w1⟩ := DataW.trod_int Tryd.underlying3 g1
  obtain ⟨c, e2, _, w2⟩ := DataW.trod_int Tryd.underlying3 g2
  simp at e0 e1 e2
  subst e0 e1 e2
  exact ⟨⟨a, b, c⟩, rfl, wfG_i64 w1, wfG_i64 w2⟩
theorem one_scV {fuel : Nat} {cs : List Value} {x : DataW H × List MemPlace} (hl : cs.length = 4) (h : DataW.trod enc Tryd.prog w 0 (fun _ => true) true fuel 54 cs = some x) : ∃ y : Scr, cs = KC.f y ∧ I64 y.p := by
  obtain ⟨x0, x1, x2, x3, rfl⟩ := listG4 hl
  obtain ⟨xs, n, _, _, _, hlen, hfl⟩ := DataW.trod_struct Tryd.underlying54 h
  obtain ⟨z0, z1, z2, z3, rfl⟩ := listG4 (l := xs) (by simpa using hlen)
  have g0 := hfl 0 _ rfl
  have g1 := hfl 1 _ rfl
  have g2 := hfl 2 _ rfl
  have g3 := hfl 3 _ rfl
  simp [cellsV_int] at g0 g1 g2 g3
  obtain ⟨a, e0, _, w0⟩ := DataW.trod_int Tryd.underlying3 g0
  obtain ⟨b, e1, _, _⟩ := DataW.trod_int Tryd.underlying3 g1
  obtain ⟨c, e2, _, _⟩ := DataW.trod_int Tryd.underlying3 g2
  obtain ⟨d, e3, _, _⟩ := DataW.trod_int Tryd.underlying3 g3
  simp at e0 e1 e2 e3
  subst e0 e1 e2 e3
  exact ⟨⟨a, b, c, d⟩, rfl, wfG_i64 w0⟩
theorem one_ptV {fuel : Nat} {cs : List Value} {x : DataW H × List MemPlace} (hl : cs.length = 2) (h : DataW.trod enc Tryd.prog w 0 (fun _ => true) true fuel 35 cs = some x) : ∃ a b : Int, cs = [.int .i64 a, .int .i64 b] := by
  obtain ⟨x0, x1, rfl⟩ := listG2 hl
  obtain ⟨xs, n, _, _, _, hlen, hfl⟩ := DataW.trod_struct Tryd.underlying35 h
  obtain ⟨z0, z1, rfl⟩ := listG2 (l := xs) (by simpa using hlen)
  have g0 := hfl 0 _ rfl
  have g1 := hfl 1 _ rfl
  simp [cellsV_int] at g0 g1
  obtain ⟨a, e0, _, _⟩ := DataW.trod_int Tryd.underlying3 g0
  obtain ⟨b, e1, _, _⟩ := DataW.trod_int Tryd.underlying3 g1
  simp at e0 e1
  subst e0 e1
  exact ⟨a, b, rfl⟩
theorem one_mvV {fuel : Nat} {cs : List Value} {x : DataW H × List MemPlace} (hl : cs.length = 13) (h : DataW.trod enc Tryd.prog w 0 (fun _ => true) true fuel 52 cs = some x) : ∃ y : Mv, cs = KM.f y ∧ I64 y.hl := by
  obtain ⟨x0, x1, x2, x3, x4, x5, x6, x7, x8, x9, x10, x11, x12, rfl⟩ := listG13 hl
  obtain ⟨xs, n, _, _, _, hlen, hfl⟩ := DataW.trod_struct Tryd.underlying52 h
  obtain ⟨z0, z1, z2, z3, z4, z5, z6, z7, z8, z9, rfl⟩ := listG10 (l := xs) (by simpa using hlen)
  have g0 := hfl 0 _ rfl
  have g1 := hfl 1 _ rfl
  have g2 := hfl 2 _ rfl
  have g3 := hfl 3 _ rfl
  have g4 := hfl 4 _ rfl
  have g5 := hfl 5 _ rfl
  have g6 := hfl 6 _ rfl
  have g7 := hfl 7 _ rfl
  have g8 := hfl 8 _ rfl
  have g9 := hfl 9 _ rfl
  simp [cellsV_int, cellsV_pt, cellsV_bool] at g0 g1 g2 g3 g4 g5 g6 g7 g8 g9
  obtain ⟨a0, a1, e0⟩ := one_ptV rfl g0
  obtain ⟨a2, a3, e1⟩ := one_ptV rfl g1
  obtain ⟨a4, a5, e2⟩ := one_ptV rfl g2
  obtain ⟨a6, e3, _, _⟩ := DataW.trod_int Tryd.underlying3 g3
  obtain ⟨a7, e4, _, w7⟩ := DataW.trod_int Tryd.underlying3 g4
  obtain ⟨a8, e5, _, _⟩ := DataW.trod_int Tryd.underlying3 g5
  obtain ⟨a9, e6, _⟩ := DataW.trod_bool Tryd.underlying4 g6
  obtain ⟨a10, e7, _, _⟩ := DataW.trod_int Tryd.underlying3 g7
  obtain ⟨a11, e8, _, _⟩ := DataW.trod_int Tryd.underlying3 g8
  obtain ⟨a12, e9, _, _⟩ := DataW.trod_int Tryd.underlying3 g9
  simp at e0 e1 e2 e3 e4 e5 e6 e7 e8 e9
  obtain ⟨rfl, rfl⟩ := e0
  obtain ⟨rfl, rfl⟩ := e1
  obtain ⟨rfl, rfl⟩ := e2
  subst e3 e4 e5 e6 e7 e8 e9
  exact ⟨⟨a0, a1, a2, a3, a4, a5, a6, a7, a8, a9, a10, a11, a12⟩, rfl, wfG_i64 w7⟩
/-- Counters that came in. -/
theorem open_ctV {r : Go.Reach} {b0 : Nat} {v : Value} {d : DataW H} {p : List MemPlace} (hv : Value.okWide Tryd.prog w r b0 46 v) (h : DataW.Trod enc Tryd.prog w 0 (fun _ => true) true 46 v d p) : ∃ c : Ctr, v = .agg (ctcs c) ∧ c.In := by
  obtain ⟨cs, rfl, hsz⟩ := okWide_struct Tryd.underlying46 hv
  obtain ⟨l⟩ := cs
  obtain ⟨x0, x1, x2, x3, x4, x5, x6, x7, x8, rfl⟩ := listV9 (l := l) (by simpa using hsz.trans cellsV_ct)
  obtain ⟨fuel, hf⟩ := h
  obtain ⟨xs, n, _, _, _, hlen, hfl⟩ := DataW.trod_struct Tryd.underlying46 hf
  obtain ⟨z0, z1, z2, z3, z4, z5, z6, z7, z8, rfl⟩ := listV9 (l := xs) (by simpa using hlen)
  have g0 := hfl 0 _ rfl
  have g1 := hfl 1 _ rfl
  have g2 := hfl 2 _ rfl
  have g3 := hfl 3 _ rfl
  have g4 := hfl 4 _ rfl
  have g5 := hfl 5 _ rfl
  have g6 := hfl 6 _ rfl
  have g7 := hfl 7 _ rfl
  have g8 := hfl 8 _ rfl
  simp [Value.cells, cellsV_int] at g0 g1 g2 g3 g4 g5 g6 g7 g8
  obtain ⟨a0, e0, _, w0⟩ := DataW.trod_int Tryd.underlying3 g0
  obtain ⟨a1, e1, _, w1⟩ := DataW.trod_int Tryd.underlying3 g1
  obtain ⟨a2, e2, _, w2⟩ := DataW.trod_int Tryd.underlying3 g2
  obtain ⟨a3, e3, _, w3⟩ := DataW.trod_int Tryd.underlying3 g3
  obtain ⟨a4, e4, _, w4⟩ := DataW.trod_int Tryd.underlying3 g4
  obtain ⟨a5, e5, _, w5⟩ := DataW.trod_int Tryd.underlying3 g5
  obtain ⟨a6, e6, _, w6⟩ := DataW.trod_int Tryd.underlying3 g6
  obtain ⟨a7, e7, _, w7⟩ := DataW.trod_int Tryd.underlying3 g7
  obtain ⟨a8, e8, _, w8⟩ := DataW.trod_int Tryd.underlying3 g8
  simp at e0 e1 e2 e3 e4 e5 e6 e7 e8
  subst e0 e1 e2 e3 e4 e5 e6 e7 e8
  exact ⟨⟨a0, a1, a2, a3, a4, a5, a6, a7, a8⟩, rfl, wfG_i64 w0, wfG_i64 w1, wfG_i64 w2, wfG_i64 w3, wfG_i64 w4, wfG_i64 w5, wfG_i64 w6, wfG_i64 w7, wfG_i64 w8⟩
/-- Scores, notes that came in. -/
theorem open_scsV {fuel : Nat} {cs : List Value} {x : DataW H × List MemPlace} (h : DataW.trod enc Tryd.prog w 0 (fun _ => true) true fuel 23 cs = some x) :
    ∃ so n cap, cs = [.slice so n cap] ∧ n ≤ cap ∧ (n ≤ 281474976710656 → ∃ L, RdG KC w so n L ∧ ∀ i, i < n → I64 (L.getD i KC.d).p) ∧ (so = none → cap = 0) ∧ (n = 0 ∨ ∃ es sp, x.1 = .slice es sp ∧ es.length = n) :=
  open_rows KC (fun y => I64 y.p) Tryd.underlying23 cellsV_sc one_scV h
theorem open_nvsV {fuel : Nat} {cs : List Value} {x : DataW H × List MemPlace} (h : DataW.trod enc Tryd.prog w 0 (fun _ => true) true fuel 39 cs = some x) :
    ∃ so n cap, cs = [.slice so n cap] ∧ n ≤ cap ∧ (n ≤ 281474976710656 → ∃ L, RdG KNv w so n L ∧ ∀ i, i < n → (I64 (L.getD i KNv.d).a ∧ I64 (L.getD i KNv.d).b)) ∧ (so = none → cap = 0) ∧ (n = 0 ∨ ∃ es sp, x.1 = .slice es sp ∧ es.length = n) :=
  open_rows KNv (fun y => I64 y.a ∧ I64 y.b) Tryd.underlying39 cellsV_nv one_nvV h
theorem mem_ofV {α : Type} {L : List α} {n : Nat} {d : α} {Q : α → Prop} (hl : L.length = n) (h : ∀ i, i < n → Q (L.getD i d)) : ∀ x ∈ L, Q x := fun x hx => by
  obtain ⟨i, hi, rfl⟩ := List.mem_iff_getElem.1 hx
  have := h i (by omega)
  rwa [List.getD_eq_getElem?_getD, List.getElem?_eq_getElem hi] at this
theorem slV {t e : TypeId} {fuel : Nat} {v : Value} {x : DataW H × List MemPlace} (ht : Tryd.prog.underlying t = some (.slice e)) (h : DataW.trod enc Tryd.prog w 0 (fun _ => true) true fuel t [v] = some x) : ∃ a n c, v = .slice a n c := by
  rcases open_slice ht h with ⟨e, _⟩ | ⟨a, len, cap, m, n, D, Pl, e, _⟩
  · exact ⟨none, 0, 0, by simpa using e⟩
  · exact ⟨some a, len, cap, by simpa using e⟩
/-- A world that came in. -/
theorem open_wdV {r : Go.Reach} {b0 : Nat} {v : Value} {d : DataW H} {p : List MemPlace} (hv : Value.okWide Tryd.prog w r b0 27 v) (h : DataW.Trod enc Tryd.prog w 0 (fun _ => true) true 27 v d p) (hw : ∀ n ∈ d.weights Tryd.prog 27, n ≤ reachBytes) :
    ∃ (fr nx : Int) (a1 b1 c1 d1 : Option Addr) (a2 a3 b2 b3 c2 c3 d2 d3 : Nat) (M : List Mv) (C : List Scr), v = .agg (wdcs fr nx (.slice a1 a2 a3) (.slice b1 b2 b3) (.slice c1 c2 c3) (.slice d1 d2 d3)) ∧ RdG KM w a1 a2 M ∧ RdG KC w b1 b2 C ∧ InH M C ∧ (a2 + 1) * 56 ≤ 140737488355328 := by
  obtain ⟨cs, rfl, hsz⟩ := okWide_struct Tryd.underlying27 hv
  obtain ⟨l⟩ := cs
  obtain ⟨x0, x1, x2, x3, x4, x5, rfl⟩ := listG6 (l := l) (by simpa using hsz.trans cellsV_wd)
  obtain ⟨fuel, hf⟩ := h
  obtain ⟨xs, n, _, hx, _, hlen, hfl⟩ := DataW.trod_struct Tryd.underlying27 hf
  obtain ⟨z0, z1, z2, z3, z4, z5, rfl⟩ := listG6 (l := xs) (by simpa using hlen)
  have g0 := hfl 0 _ rfl
  have g1 := hfl 1 _ rfl
  have g2 := hfl 2 _ rfl
  have g3 := hfl 3 _ rfl
  have g4 := hfl 4 _ rfl
  have g5 := hfl 5 _ rfl
  simp [Value.cells, cellsV_int, cellsV_i64, cellsV_lm, cellsV_lc, cellsV_ls, cellsV_lp] at g0 g1 g2 g3 g4 g5
  have hd : d = .agg ([z0, z1, z2, z3, z4, z5].map (·.1)) := by simpa using congrArg (·.1) hx
  have hmem : ∀ n, (n ∈ z1.1.weights Tryd.prog 22 ∨ n ∈ z2.1.weights Tryd.prog 23) → n ≤ reachBytes := fun n hn => hw n (by
    rw [hd]
    simp only [DataW.weights, Tryd.underlying27, List.map_cons, List.map_nil, DataW.weightsEach, List.mem_append]
    rcases hn with hn | hn <;> simp [hn])
  obtain ⟨fr, e0, _, _⟩ := DataW.trod_int Tryd.underlying2 g0
  obtain ⟨nx, e5, _, _⟩ := DataW.trod_int Tryd.underlying3 g5
  obtain ⟨a1, a2, a3, hs1, _, hr1, _, hb1⟩ := open_rows KM (fun y => I64 y.hl) Tryd.underlying22 cellsV_mv one_mvV g1
  obtain ⟨b1, b2, b3, hs2, _, hr2, _, hb2⟩ := open_scsV g2
  obtain ⟨c1, c2, c3, e3⟩ := slV Tryd.underlying24 g3
  obtain ⟨d1, d2, d3, e4⟩ := slV Tryd.underlying25 g4
  have hrb : reachBytes = 140737488351232 := rfl
  have y1 : a2 * 104 ≤ reachBytes := by
    rcases hb1 with h0 | ⟨es, sp, h1, h2⟩
    · omega
    · have := hmem ((es.length + sp.length) * 104) (.inl (by rw [h1]; simp [DataW.weights, Tryd.underlying22, show Tryd.prog.bytesOf 52 = 104 by kernel_rfl]))
      omega
  have y2 : b2 * 32 ≤ reachBytes := by
    rcases hb2 with h0 | ⟨es, sp, h1, h2⟩
    · omega
    · have := hmem ((es.length + sp.length) * 32) (.inr (by rw [h1]; simp [DataW.weights, Tryd.underlying23, show Tryd.prog.bytesOf 54 = 32 by kernel_rfl]))
      omega
  obtain ⟨M, hM, hMi⟩ := hr1 (by omega)
  obtain ⟨C, hC, hCi⟩ := hr2 (by omega)
  simp at e0 e5 hs1 hs2
  subst e0 e5 hs1 hs2 e3 e4
  exact ⟨fr, nx, a1, b1, c1, d1, a2, a3, b2, b3, c2, c3, d2, d3, M, C, rfl, hM, hC, inH_of (mem_ofV hM.1 hMi) (mem_ofV hC.1 hCi), by omega⟩
end
/-- the table of pickups as a row lists it -/
def kdsV {H : Type} : DataW H := .agg ((List.range 4).map fun i => .agg [.lit (.string (kdN i).data.toList), .lit (.string (kdG i).data.toList)])
theorem gKds : Tryd.prog.globalNamed "echelon/view.pickupKinds" = some 0 := by kernel_rfl
theorem ktab_reads {W : World} (h : Lib.VarReads Tryd.prog W "echelon/view.pickupKinds" kdsV) : KTab W := by
  have key : ∀ i, i < 4 → W.cell? ⟨0, i * 2, none⟩ = some (.string (kdN i)) ∧ W.cell? ⟨0, i * 2 + 1, none⟩ = some (.string (kdG i)) := fun i hi => by
    obtain ⟨g, t, cs, fuel, p, hg, hty, hvar, hd⟩ := h
    obtain rfl := Option.some.inj (gKds.symm.trans hg)
    obtain rfl := Option.some.inj ((show (Tryd.prog.globals[0]?).map (·.type) = some 79 by kernel_rfl).symm.trans hty)
    obtain ⟨fuel', d, q, hdi, he⟩ := Lib.array_elem (t := 79) (e := 78) (n := 4) Tryd.underlying79 hd i hi
    simp only [List.getElem?_map, List.getElem?_range hi, Option.map_some, Option.some.injEq] at hdi
    subst hdi
    rw [cellsV_pk] at he
    obtain ⟨xs, n, _, hx, _, hlen, hfl⟩ := DataW.trod_struct Tryd.underlying78 he
    obtain ⟨z0, z1, rfl⟩ := listG2 (l := xs) (by simpa using hlen)
    have g0 := hfl 0 _ rfl
    have g1 := hfl 1 _ rfl
    simp [cellsV_str] at g0 g1
    obtain ⟨s0, e0, q0, _⟩ := DataW.trod_string Tryd.underlying9 g0
    obtain ⟨s1, e1, q1, _⟩ := DataW.trod_string Tryd.underlying9 g1
    have hxx := congrArg Prod.fst hx
    simp only [List.map_cons, List.map_nil, DataW.agg.injEq, List.cons.injEq, and_true] at hxx
    have k0 : z0.1 = .lit (.string s0.data.toList) := congrArg Prod.fst q0
    have k1 : z1.1 = .lit (.string s1.data.toList) := congrArg Prod.fst q1
    rw [k0, k1] at hxx
    simp at hxx
    obtain ⟨h0, h1⟩ := hxx
    have m0 : kdN i = s0 := ByteArray.ext (by simpa using h0)
    have m1 : kdG i = s1 := ByteArray.ext (by simpa using h1)
    have f0 := congrArg (·[0]?) e0
    have f1 := congrArg (·[0]?) e1
    simp only [List.getElem?_take, List.getElem?_drop] at f0 f1
    simp at f0 f1
    rw [World.var?_cell hg hvar (i * 2), World.var?_cell hg hvar (i * 2 + 1), m0, m1]
    exact ⟨by simpa using f0, by simpa using f1⟩
  exact ⟨fun k hk => (key k hk).1, fun k hk => (key k hk).2⟩
theorem kds_same : (Rows.laid_echelon_view_pickupKinds : DataW Unit) = kdsV := by kernel_rfl
theorem gPowV : Tryd.prog.globalNamed "internal/strconv.uint64pow10" = some 1 := by kernel_rfl
theorem ptabV_of {W : World} {r : List (String × DataW Unit)} (h : laidMet Tryd.prog (("internal/strconv.uint64pow10", Lib.tabData .u64 Lib.pow10Tab) :: r) W) : PTabV W :=
  Lib.tabIs_of_head (t := 131) (e := 118) (n := 20) gPowV (by kernel_rfl) Tryd.underlying131 Tryd.underlying118 (by kernel_rfl) (by kernel_rfl) h
end Go.Proofs.YtdljmpjfiggdiaaDoor
