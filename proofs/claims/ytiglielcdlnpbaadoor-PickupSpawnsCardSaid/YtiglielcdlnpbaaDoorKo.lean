/- Arguments opened: pickups, a question, a mover; what a row's list of variables gives. -/
import Derived.Test.YtiglielcdlnpbaaDoorRows
import Derived.Test.YtiglielcdlnpbaaDoorKg
import Derived.Deep.Slices
import Derived.Deep.Fields
import Derived.ProofKit
import Derived.Lay
import Derived.LaidMore
import Derived.Stop.Joined
import Derived.Lib.LaidTab
import Derived.KernelRfl
import Derived.SizedLaws
namespace Go.Proofs.YtiglielcdlnpbaaDoor
open Go.ChangeShapes Go.WideShapes Go.ChangeAt Go.RowKit Go.Deep
open Pu Gp Np Ka
set_option maxRecDepth 100000

theorem wf_i64 {n : Int} (h : (Lit.int .i64 n).wf = true) : -9223372036854775808 ≤ n ∧ n ≤ 9223372036854775807 := by simpa [Lit.wf, IntKind.min, IntKind.max, IntKind.signed, IntKind.bits] using h
theorem wf_u64 {n : Int} (h : (Lit.int .u64 n).wf = true) : 0 ≤ n ∧ n < 18446744073709551616 := by
  have : 0 ≤ n ∧ n ≤ 18446744073709551615 := by simpa [Lit.wf, IntKind.min, IntKind.max, IntKind.signed, IntKind.bits] using h
  omega
theorem cells_int : Tryd.prog.cellsOf 3 = 1 := by kernel_rfl
theorem cells_pt : Tryd.prog.cellsOf 38 = 2 := by kernel_rfl
theorem laidOut : laidOutB Tryd.prog = true := by kernel_rfl
theorem list2 {α : Type} {l : List α} (h : l.length = 2) : ∃ a b, l = [a, b] := by
  match l, h with
  | [a, b], _ => exact ⟨a, b, rfl⟩
theorem list4 {α : Type} {l : List α} (h : l.length = 4) : ∃ a b c d, l = [a, b, c, d] := by
  match l, h with
  | [a, b, c, d], _ => exact ⟨a, b, c, d, rfl⟩
theorem cells_bool : Tryd.prog.cellsOf 4 = 1 := by kernel_rfl
theorem cells_mv : Tryd.prog.cellsOf 40 = 13 := by kernel_rfl
theorem list3 {α : Type} {l : List α} (h : l.length = 3) : ∃ a b c, l = [a, b, c] := by
  match l, h with
  | [a, b, c], _ => exact ⟨a, b, c, rfl⟩
theorem list10 {α : Type} {l : List α} (h : l.length = 10) : ∃ z0 z1 z2 z3 z4 z5 z6 z7 z8 z9, l = [z0, z1, z2, z3, z4, z5, z6, z7, z8, z9] := by
  match l, h with
  | [z0, z1, z2, z3, z4, z5, z6, z7, z8, z9], _ => exact ⟨z0, z1, z2, z3, z4, z5, z6, z7, z8, z9, rfl⟩
theorem list13 {α : Type} {l : List α} (h : l.length = 13) : ∃ x0 x1 x2 x3 x4 x5 x6 x7 x8 x9 x10 x11 x12, l = [x0, x1, x2, x3, x4, x5, x6, x7, x8, x9, x10, x11, x12] := by
  match l, h with
  | [x0, x1, x2, x3, x4, x5, x6, x7, x8, x9, x10, x11, x12], _ => exact ⟨x0, x1, x2, x3, x4, x5, x6, x7, x8, x9, x10, x11, x12, rfl⟩
theorem cells_i64 : Tryd.prog.cellsOf 2 = 1 := by kernel_rfl
theorem cells_u64 : Tryd.prog.cellsOf 29 = 1 := by kernel_rfl
theorem cells_pk : Tryd.prog.cellsOf 33 = 3 := by kernel_rfl
theorem bytes_pk : Tryd.prog.bytesOf 33 = 24 := by kernel_rfl
theorem cells_ask : Tryd.prog.cellsOf 31 = 4 := by kernel_rfl
section
variable {H : Type} {enc : TypeId × Value → H} {w : World}
theorem pt_cells {fuel : Nat} {cs : List Value} {x : DataW H × List MemPlace} (hl : cs.length = 2) (h : DataW.trod enc Tryd.prog w 0 (fun _ => true) true fuel 38 cs = some x) : ∃ a b : Int, cs = [.int .i64 a, .int .i64 b] := by
  obtain ⟨x0, x1, rfl⟩ := list2 hl
  obtain ⟨xs, n, _, _, _, hlen, hfl⟩ := DataW.trod_struct Tryd.underlying38 h
  obtain ⟨z0, z1, rfl⟩ := list2 (l := xs) (by simpa using hlen)
  have g0 := hfl 0 _ rfl
  have g1 := hfl 1 _ rfl
  simp [cells_int] at g0 g1
  obtain ⟨a, e0, _, _⟩ := DataW.trod_int Tryd.underlying3 g0
  obtain ⟨b, e1, _, _⟩ := DataW.trod_int Tryd.underlying3 g1
  simp at e0 e1
  subst e0 e1
  exact ⟨a, b, rfl⟩
/-- A mover that came in. -/
theorem open_mv {r : Reach} {b0 : Nat} {v : Value} {d : DataW H} {p : List MemPlace} (hv : Value.okWide Tryd.prog w r b0 40 v) (h : DataW.Trod enc Tryd.prog w 0 (fun _ => true) true 40 v d p) :
    ∃ m : Mv, v = mv m := by
  obtain ⟨cs, rfl, hsz⟩ := okWide_struct Tryd.underlying40 hv
  obtain ⟨l⟩ := cs
  obtain ⟨x0, x1, x2, x3, x4, x5, x6, x7, x8, x9, x10, x11, x12, rfl⟩ := list13 (l := l) (by simpa using hsz.trans cells_mv)
  obtain ⟨fuel, hf⟩ := h
  obtain ⟨xs, n, _, _, _, hlen, hfl⟩ := DataW.trod_struct Tryd.underlying40 hf
  obtain ⟨z0, z1, z2, z3, z4, z5, z6, z7, z8, z9, rfl⟩ := list10 (l := xs) (by simpa using hlen)
  have g0 := hfl 0 _ rfl
  have g1 := hfl 1 _ rfl
  have g2 := hfl 2 _ rfl
  have g3 := hfl 3 _ rfl
  have g4 := hfl 4 _ rfl
  have g5 := hfl 5 _ rfl
  have g6 := hfl 6 _ rfl
  have g7 := hfl 7 _ rfl
  have g8 := hfl 8 _ rfl
  have g9 := hfl 9 _ rfl
  simp [Value.cells, cells_int, cells_pt, cells_bool] at g0 g1 g2 g3 g4 g5 g6 g7 g8 g9
  obtain ⟨a0, a1, e0⟩ := pt_cells rfl g0
  obtain ⟨a2, a3, e1⟩ := pt_cells rfl g1
  obtain ⟨a4, a5, e2⟩ := pt_cells rfl g2
  obtain ⟨a6, e3, _, _⟩ := DataW.trod_int Tryd.underlying3 g3
  obtain ⟨a7, e4, _, _⟩ := DataW.trod_int Tryd.underlying3 g4
  obtain ⟨a8, e5, _, _⟩ := DataW.trod_int Tryd.underlying3 g5
  obtain ⟨a9, e6, _⟩ := DataW.trod_bool Tryd.underlying4 g6
  obtain ⟨a10, e7, _, _⟩ := DataW.trod_int Tryd.underlying3 g7
  obtain ⟨a11, e8, _, _⟩ := DataW.trod_int Tryd.underlying3 g8
  obtain ⟨a12, e9, _, _⟩ := DataW.trod_int Tryd.underlying3 g9
  simp at e0 e1 e2 e3 e4 e5 e6 e7 e8 e9
  obtain ⟨rfl, rfl⟩ := e0
  obtain ⟨rfl, rfl⟩ := e1
  obtain ⟨rfl, rfl⟩ := e2
  subst e3 e4 e5 e6 e7 e8 e9
  exact ⟨⟨a0, a1, a2, a3, a4, a5, a6, a7, a8, a9, a10, a11, a12⟩, rfl⟩
/-- A question that came in. -/
theorem open_ask {r : Reach} {b0 : Nat} {v : Value} {d : DataW H} {p : List MemPlace} (hv : Value.okWide Tryd.prog w r b0 31 v) (h : DataW.Trod enc Tryd.prog w 0 (fun _ => true) true 31 v d p) :
    ∃ q f s no : Int, v = .agg (qcs q f s no) ∧ InQ q f s no := by
  obtain ⟨cs, rfl, hsz⟩ := okWide_struct Tryd.underlying31 hv
  obtain ⟨l⟩ := cs
  obtain ⟨x0, x1, x2, x3, rfl⟩ := list4 (l := l) (by simpa using hsz.trans cells_ask)
  obtain ⟨fuel, hf⟩ := h
  obtain ⟨xs, n, _, _, _, hlen, hfl⟩ := DataW.trod_struct Tryd.underlying31 hf
  obtain ⟨z0, z1, z2, z3, rfl⟩ := list4 (l := xs) (by simpa using hlen)
  have g0 := hfl 0 _ rfl
  have g1 := hfl 1 _ rfl
  have g2 := hfl 2 _ rfl
  have g3 := hfl 3 _ rfl
  simp [Value.cells, cells_u64] at g0
  simp [Value.cells, cells_i64] at g1
  simp [Value.cells, cells_int] at g2 g3
  obtain ⟨q, e0, _, w0⟩ := DataW.trod_int Tryd.underlying29 g0
  obtain ⟨f, e1, _, w1⟩ := DataW.trod_int Tryd.underlying2 g1
  obtain ⟨s, e2, _, w2⟩ := DataW.trod_int Tryd.underlying3 g2
  obtain ⟨no, e3, _, w3⟩ := DataW.trod_int Tryd.underlying3 g3
  simp at e0 e1 e2 e3
  subst e0 e1 e2 e3
  exact ⟨q, f, s, no, rfl, wf_u64 w0, wf_i64 w1, wf_i64 w2, wf_i64 w3⟩
theorem pk_cells {fuel : Nat} {cs : List Value} {x : DataW H × List MemPlace} (hl : cs.length = 3) (h : DataW.trod enc Tryd.prog w 0 (fun _ => true) true fuel 33 cs = some x) :
    ∃ y : Pk, cs = [.int .i64 y.no, .int .i64 y.sp, .int .i64 y.kd] ∧ InI y.no ∧ InI y.sp ∧ InI y.kd := by
  obtain ⟨x0, x1, x2, rfl⟩ := list3 hl
  obtain ⟨xs, n, _, _, _, hlen, hfl⟩ := DataW.trod_struct Tryd.underlying33 h
  obtain ⟨z0, z1, z2, rfl⟩ := list3 (l := xs) (by simpa using hlen)
  have g0 := hfl 0 _ rfl
  have g1 := hfl 1 _ rfl
  have g2 := hfl 2 _ rfl
  simp [cells_int] at g0 g1 g2
  obtain ⟨a, e0, _, w0⟩ := DataW.trod_int Tryd.underlying3 g0
  obtain ⟨b, e1, _, w1⟩ := DataW.trod_int Tryd.underlying3 g1
  obtain ⟨c, e2, _, w2⟩ := DataW.trod_int Tryd.underlying3 g2
  simp at e0 e1 e2
  subst e0 e1 e2
  exact ⟨⟨a, b, c⟩, rfl, wf_i64 w0, wf_i64 w1, wf_i64 w2⟩
/-- Pickups that came in. -/
theorem open_ks {fuel : Nat} {cs : List Value} {x : DataW H × List MemPlace} (h : DataW.trod enc Tryd.prog w 0 (fun _ => true) true fuel 22 cs = some x) :
    ∃ so n cap, cs = [.slice so n cap] ∧ (n ≤ 281474976710656 → ∃ L, RdK w so n L ∧ InK L) ∧ (so = none → cap = 0) ∧ (n = 0 ∨ ∃ es sp, x.1 = .slice es sp ∧ es.length = n) := by
  rcases open_slice Tryd.underlying22 h with ⟨rfl, rfl⟩ | ⟨a, len, cap, m, n, D, Pl, rfl, _, hl, hm, hmm, rfl, hx⟩
  · exact ⟨none, 0, 0, rfl, fun _ => ⟨[], RdK.nil _ _, InK.nil⟩, fun _ => rfl, .inl rfl⟩
  · simp only [if_true] at hmm
    subst hmm
    rw [cells_pk] at hx
    refine ⟨some a, len, m, rfl, fun h48 => ?_, fun h => (by cases h), .inr ⟨_, _, rfl, by simp⟩⟩
    have key : ∀ i, i < len → ∃ y : Pk, (∀ j, j < 3 → w.cell? ((a.add (i * 3)).add j) = [Value.int .i64 y.no, .int .i64 y.sp, .int .i64 y.kd][j]?) ∧ InI y.no ∧ InI y.sp ∧ InI y.kd := fun i hi => by
      obtain ⟨cs', h1, h2⟩ := hx i (by omega)
      obtain ⟨_, hlen, hc⟩ := World.cells?_some h1
      obtain ⟨y, rfl, hy⟩ := pk_cells hlen h2
      exact ⟨y, hc, hy⟩
    obtain ⟨f, hf⟩ : ∃ f : Nat → Pk, ∀ i, i < len → (∀ j, j < 3 → w.cell? ((a.add (i * 3)).add j) = [Value.int .i64 (f i).no, .int .i64 (f i).sp, .int .i64 (f i).kd][j]?) ∧ InI (f i).no ∧ InI (f i).sp ∧ InI (f i).kd :=
      ⟨fun i => if h : i < len then Classical.choose (key i h) else zK, fun i hi => by
        simp only [dif_pos hi]
        exact Classical.choose_spec (key i hi)⟩
    have hpk : ∀ i, i < len → pk ((List.range len).map f) i = f i := fun i hi => by simp [pk, List.getD, hi]
    refine ⟨(List.range len).map f, ⟨by simp, h48, ?_⟩, fun i => ?_⟩
    · by_cases h0 : len = 0
      · exact .inl h0
      right
      have hsp : a.spot = none := by
        have := (hf 0 (by omega)).1 0 (by omega)
        simpa [Addr.add] using World.cell?_spot this
      obtain ⟨B, o, s⟩ := a
      simp at hsp
      subst hsp
      refine ⟨B, o, rfl, fun i hi => ?_⟩
      have hc := (hf i hi).1
      rw [add_plain] at hc
      rw [hpk i hi]
      refine ⟨?_, ?_, ?_⟩
      · have := hc 0 (by omega); rw [add_plain] at this; simpa using this
      · have := hc 1 (by omega); rw [add_plain] at this; simpa using this
      · have := hc 2 (by omega); rw [add_plain] at this; simpa using this
    · by_cases hi : i < len
      · rw [hpk i hi]; exact (hf i hi).2
      · have e : pk ((List.range len).map f) i = zK := by
          simp [pk, List.getD, List.getElem?_eq_none (show (List.range len).length ≤ i by simp; omega)]
        rw [e]
        exact ⟨⟨by decide, by decide⟩, ⟨by decide, by decide⟩, by decide, by decide⟩
end
def LL : List (String × DataW Unit) := [("echelon/digest.factors", Rows.laid_echelon_digest_factors)]
def facs : List Int := [13787848793156543929, 10723151780598845931, 1099511628211, 11400714819323198485]
theorem gFac : Tryd.prog.globalNamed "echelon/digest.factors" = some 0 := by kernel_rfl
set_option maxRecDepth 100000 in
theorem tab_of {W : World} (hL : laidMet Tryd.prog LL W) : DTab W := by
  have h5 : laidMet Tryd.prog (("echelon/digest.factors", Lib.tabData .u64 facs) :: []) W := hL
  have t5 := Lib.tabIs_of_head (t := 76) (e := 29) (n := 4) gFac (by kernel_rfl) Tryd.underlying76 Tryd.underlying29 (by kernel_rfl) (by kernel_rfl) h5
  exact ⟨t5.cell gFac 0 (by decide), t5.cell gFac 1 (by decide), t5.cell gFac 3 (by decide)⟩
end Go.Proofs.YtiglielcdlnpbaaDoor
