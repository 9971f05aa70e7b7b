/- Parts of the proof, laid end to end. -/
import Derived.Test.YtnbofjaecchnaaaDoorRows
import Derived.Test.YtnbofjaecchnaaaDoorZR13
import Derived.Test.YtnbofjaecchnaaaDoorZR11
import Derived.Deep.Slices
import Derived.Deep.Fields
import Derived.ProofKit
import Derived.SizedLaws
import Derived.KernelRfl
import Derived.Lib.LaidU8
import Derived.Lib.LaidTab
import Derived.LaidMore
namespace Go.Proofs.YtnbofjaecchnaaaDoor
open Go.ChangeShapes Go.WideShapes Go.ChangeAt Go.RowKit Go.Deep
open Wp Vp Lp
set_option maxRecDepth 100000
set_option linter.unusedVariables false
set_option linter.unusedSimpArgs false
theorem cZ_int : Tryd.prog.cellsOf 3 = 1 := by kernel_rfl
theorem cZ_i64 : Tryd.prog.cellsOf 2 = 1 := by kernel_rfl
theorem cZ_u64 : Tryd.prog.cellsOf 26 = 1 := by kernel_rfl
theorem cZ_bool : Tryd.prog.cellsOf 4 = 1 := by kernel_rfl
theorem cZ_st : Tryd.prog.cellsOf 9 = 1 := by kernel_rfl
theorem cZ_or : Tryd.prog.cellsOf 34 = 4 := by kernel_rfl
theorem cZ_cm : Tryd.prog.cellsOf 36 = 7 := by kernel_rfl
theorem cZ_dg : Tryd.prog.cellsOf 39 = 8 := by kernel_rfl
theorem cZ_cs : Tryd.prog.cellsOf 37 = 1 := by kernel_rfl
theorem cZ_op : Tryd.prog.cellsOf 41 = 24 := by kernel_rfl
theorem bZ_cm : Tryd.prog.bytesOf 36 = 56 := by kernel_rfl
theorem bZ_op : Tryd.prog.bytesOf 41 = 208 := by kernel_rfl
theorem wfZ_u64 {n : Int} (h : (Lit.int .u64 n).wf = true) : 0 <= n /\ n < 18446744073709551616 := by
 have : 0 <= n /\ n <= 18446744073709551615 := by simpa [Lit.wf, IntKind.min, IntKind.max, IntKind.signed, IntKind.bits] using h
 omega
theorem weightsZ {H : Type} {ts : List TypeId} {ds : List (DataW H)} (h : (DataW.weightsEach Tryd.prog ts ds).all (· <= reachBytes) = true) {j : Nat} {t : TypeId} {d : DataW H} (ht : ts[j]? = some t) (hd : ds[j]? = some d) : ∀ n ∈ d.weights Tryd.prog t, n <= reachBytes := by
 intro n hn
 have h1 := List.all_eq_true.1 h _ (DataW.weights_mem_each ht hd _ hn)
 simpa using h1
theorem listG24 {α : Type} {l : List α} (h : l.length = 24) : ∃ x0 x1 x2 x3 x4 x5 x6 x7 x8 x9 x10 x11 x12 x13 x14 x15 x16 x17 x18 x19 x20 x21 x22 x23, l = [x0, x1, x2, x3, x4, x5, x6, x7, x8, x9, x10, x11, x12, x13, x14, x15, x16, x17, x18, x19, x20, x21, x22, x23] := by
 match l, h with
 | [x0, x1, x2, x3, x4, x5, x6, x7, x8, x9, x10, x11, x12, x13, x14, x15, x16, x17, x18, x19, x20, x21, x22, x23], _ => exact ⟨x0, x1, x2, x3, x4, x5, x6, x7, x8, x9, x10, x11, x12, x13, x14, x15, x16, x17, x18, x19, x20, x21, x22, x23, rfl⟩
theorem listG11 {α : Type} {l : List α} (h : l.length = 11) : ∃ z0 z1 z2 z3 z4 z5 z6 z7 z8 z9 z10, l = [z0, z1, z2, z3, z4, z5, z6, z7, z8, z9, z10] := by
 match l, h with
 | [z0, z1, z2, z3, z4, z5, z6, z7, z8, z9, z10], _ => exact ⟨z0, z1, z2, z3, z4, z5, z6, z7, z8, z9, z10, rfl⟩
theorem RdG.blk {w : World} {co : Option Addr} {n : Nat} {L : List Cc} (h : RdG KCc w co n L) {a : Addr} (ha : 0 < n /\ co = some a) : a.block < w.heap.size := by
 obtain ⟨B, o, e⟩ := h.at ha.1
 have e2 : a = ⟨B, o, none⟩ := Option.some.inj (ha.2.symm.trans e)
 rw [e] at h
 have hc := h.get ha.1 0 _ rfl
 have := World.block_lt_of_cell? w _ hc
 rw [e2]
 exact this
section
variable {H : Type} {enc : TypeId × Value -> H} {w : World} {α : Type}
theorem open_rowsZ (K : Kd α) (Pr : DataW H -> α -> Prop) {t e : TypeId} (hu : Tryd.prog.underlying t = some (.slice e)) (hce : Tryd.prog.cellsOf e = K.k)
  (one : ∀ {fuel : Nat} {cs : List Value} {x : DataW H × List MemPlace}, cs.length = K.k -> DataW.trod enc Tryd.prog w 0 (fun _ => true) true fuel e cs = some x -> ∃ y : α, cs = K.f y /\ Pr x.1 y)
  {fuel : Nat} {cs : List Value} {x : DataW H × List MemPlace} (h : DataW.trod enc Tryd.prog w 0 (fun _ => true) true fuel t cs = some x) :
  ∃ so n cap, cs = [.slice so n cap] /\ n <= cap /\ (so = none -> cap = 0) /\ ∃ (D : Nat -> DataW H) (sp : List (DataW H)), (n = 0 \/ x.1 = .slice ((List.range n).map D) sp) /\ (n <= 281474976710656 -> ∃ L, RdG K w so n L /\ ∀ i, i < n -> Pr (D i) (L.getD i K.d)) := by
 rcases open_slice hu h with ⟨rfl, rfl⟩ | ⟨a, len, cap, m, n, D, Pl, rfl, _, hl, hm, hmm, rfl, hx⟩
 ·exact ⟨none, 0, 0, rfl, Nat.le_refl _, fun _ => rfl, fun _ => .nil, [], .inl rfl, fun _ => ⟨[], RdG.nil _ _, fun i hi => by omega⟩⟩
 ·simp only [if_true] at hmm
  subst hmm
  rw [hce] at hx
  refine ⟨some a, len, m, rfl, hl, fun h => (by cases h), D, _, .inr rfl, fun h48 => ?_⟩
  have key : ∀ i, i < len -> ∃ y : α, (∀ j, j < K.k -> w.cell? ((a.add (i * K.k)).add j) = (K.f y)[j]?) /\ Pr (D i) y := fun i hi => by
   obtain ⟨cs', h1, h2⟩ := hx i (by omega)
   obtain ⟨_, hlen, hc⟩ := World.cells?_some h1
   obtain ⟨y, rfl, hy⟩ := one hlen h2
   exact ⟨y, hc, hy⟩
  obtain ⟨f, hf⟩ : ∃ f : Nat -> α, ∀ i, i < len -> (∀ j, j < K.k -> w.cell? ((a.add (i * K.k)).add j) = (K.f (f i))[j]?) /\ Pr (D i) (f i) :=
   ⟨fun i => if h : i < len then Classical.choose (key i h) else K.d, fun i hi => by
    simp only [dif_pos hi]
    exact Classical.choose_spec (key i hi)⟩
  have hpk : ∀ i, i < len -> ((List.range len).map f).getD i K.d = f i := fun i hi => by simp [List.getD, hi]
  refine ⟨(List.range len).map f, ⟨by simp, h48, ?_⟩, fun i hi => by rw [hpk i hi]; exact (hf i hi).2⟩
  by_cases h0 : len = 0
  ·exact .inl h0
  right
  have hsp : a.spot = none := by
   have h1 := (hf 0 (by omega)).1 0 K.pos
   have h2 : ∃ v, (K.f (f 0))[0]? = some v := ⟨_, List.getElem?_eq_getElem (by rw [K.len]; exact K.pos)⟩
   obtain ⟨v, h2⟩ := h2
   rw [h2] at h1
   simpa [Addr.add] using World.cell?_spot h1
  obtain ⟨B, o, s⟩ := a
  simp at hsp
  subst hsp
  refine ⟨B, o, rfl, fun i hi j u hju => ?_⟩
  rw [hpk i hi] at hju
  have hj : j < K.k := by
   have := (List.getElem?_eq_some_iff.1 hju).1
   rwa [K.len] at this
  have hc := (hf i hi).1 j hj
  rw [add_plain, add_plain, hju] at hc
  exact hc
theorem weights_all_memZ {P : Program} {e : TypeId} : ∀ {l : List (DataW H)} {d : DataW H}, d ∈ l -> ∀ x ∈ d.weights P e, x ∈ DataW.weightsAll P e l
 | a :: r, d, h, x, hx => by
  simp only [DataW.weightsAll, List.mem_append]
  rcases List.mem_cons.1 h with rfl | h
  ·exact .inl hx
  ·exact .inr (weights_all_memZ h x hx)
theorem reach_rowsZ {t e : TypeId} (hu : Tryd.prog.underlying t = some (.slice e)) {n : Nat} {d : DataW H} {D : Nat -> DataW H} {sp : List (DataW H)} (hd : n = 0 \/ d = .slice ((List.range n).map D) sp) (hw : ∀ x ∈ d.weights Tryd.prog t, x <= reachBytes) : n * Tryd.prog.bytesOf e <= reachBytes /\ ∀ i, i < n -> ∀ x ∈ (D i).weights Tryd.prog e, x <= reachBytes := by
 rcases hd with rfl | rfl
 ·exact ⟨by omega, fun i hi => by omega⟩
 ·have h2 := hw ((((List.range n).map D).length + sp.length) * Tryd.prog.bytesOf e) (by simp [DataW.weights, hu])
  rw [List.length_map, List.length_range] at h2
  refine ⟨Nat.le_trans (Nat.mul_le_mul_right _ (Nat.le_add_right _ _)) h2, fun i hi x hx => hw x ?_⟩
  simp only [DataW.weights, hu, List.mem_cons, List.mem_append]
  exact .inr (.inl (weights_all_memZ (List.mem_map.2 ⟨i, by simpa using hi, rfl⟩) x hx))
theorem one_orZ {fuel : Nat} {cs : List Value} {x : DataW H × List MemPlace} (hl : cs.length = 4) (h : DataW.trod enc Tryd.prog w 0 (fun _ => true) true fuel 34 cs = some x) : ∃ a b c d : Int, cs = [.int .i64 a, .int .i64 b, .int .i64 c, .int .i64 d] := by
 obtain ⟨x0, x1, x2, x3, rfl⟩ := listG4 (l := cs) hl
 obtain ⟨xs, n, _, _, _, hlen, hfl⟩ := DataW.trod_struct Tryd.underlying34 h
 obtain ⟨z0, z1, z2, z3, rfl⟩ := listG4 (l := xs) (by simpa using hlen)
 have g0 := hfl 0 _ rfl
 have g1 := hfl 1 _ rfl
 have g2 := hfl 2 _ rfl
 have g3 := hfl 3 _ rfl
 simp [cZ_int] at g0 g1 g2 g3
 obtain ⟨a, e0, _, _⟩ := DataW.trod_int Tryd.underlying3 g0
 obtain ⟨b, e1, _, _⟩ := DataW.trod_int Tryd.underlying3 g1
 obtain ⟨c, e2, _, _⟩ := DataW.trod_int Tryd.underlying3 g2
 obtain ⟨d, e3, _, _⟩ := DataW.trod_int Tryd.underlying3 g3
 simp at e0 e1 e2 e3
 subst e0 e1 e2 e3
 exact ⟨a, b, c, d, rfl⟩
theorem one_cmZ {fuel : Nat} {cs : List Value} {x : DataW H × List MemPlace} (hl : cs.length = KCc.k) (h : DataW.trod enc Tryd.prog w 0 (fun _ => true) true fuel 36 cs = some x) : ∃ y : Cc, cs = KCc.f y /\ True := by
 have hl7 : cs.length = 7 := hl
 obtain ⟨x0, x1, x2, x3, x4, x5, x6, rfl⟩ : ∃ a b c d e f g, cs = [a, b, c, d, e, f, g] := by
  match cs, hl7 with
  | [a, b, c, d, e, f, g], _ => exact ⟨a, b, c, d, e, f, g, rfl⟩
 obtain ⟨xs, n, _, _, _, hlen, hfl⟩ := DataW.trod_struct Tryd.underlying36 h
 obtain ⟨z0, z1, z2, z3, rfl⟩ := listG4 (l := xs) (by simpa using hlen)
 have g0 := hfl 0 _ rfl
 have g1 := hfl 1 _ rfl
 have g2 := hfl 2 _ rfl
 have g3 := hfl 3 _ rfl
 simp [cZ_int, cZ_i64, cZ_or] at g0 g1 g2 g3
 obtain ⟨a, e0, _, _⟩ := DataW.trod_int Tryd.underlying2 g0
 obtain ⟨b, e1, _, _⟩ := DataW.trod_int Tryd.underlying3 g1
 obtain ⟨c, e2, _, _⟩ := DataW.trod_int Tryd.underlying3 g2
 obtain ⟨v1, v2, v3, v4, e3⟩ := one_orZ rfl g3
 simp at e0 e1 e2 e3
 obtain ⟨rfl, rfl, rfl, rfl⟩ := e3
 subst e0 e1 e2
 exact ⟨⟨a, b, c, v1, v2, v3, v4⟩, rfl, trivial⟩
def GdZ (w : World) (d : DataW H) (D : Dg) (co : Option Addr) (cn cp : Nat) : Prop := (0 <= D.ss /\ D.ss < 18446744073709551616) /\ cn <= cp /\ (co = none -> cp = 0) /\ (cn <= 281474976710656 -> RdG KCc w co cn D.cs) /\ ∃ d0 d1 d2 d3 d4 d5 d6 d7, d = .agg [d0, d1, d2, d3, d4, d5, d6, d7] /\ (cn = 0 \/ ∃ es sp, d6 = .slice es sp /\ es.length = cn)
theorem one_dgZ {fuel : Nat} {cs : List Value} {x : DataW H × List MemPlace} (hl : cs.length = 8) (h : DataW.trod enc Tryd.prog w 0 (fun _ => true) true fuel 39 cs = some x) : ∃ (D : Dg) (co : Option Addr) (cn cp : Nat), cs = (dgc D co cn cp).toList /\ GdZ w x.1 D co cn cp := by
 obtain ⟨x0, x1, x2, x3, x4, x5, x6, x7, rfl⟩ := listG8 (l := cs) hl
 obtain ⟨xs, n, _, hx, _, hlen, hfl⟩ := DataW.trod_struct Tryd.underlying39 h
 obtain ⟨z0, z1, z2, z3, z4, z5, z6, z7, rfl⟩ := listG8 (l := xs) (by simpa using hlen)
 have g0 := hfl 0 _ rfl
 have g1 := hfl 1 _ rfl
 have g2 := hfl 2 _ rfl
 have g3 := hfl 3 _ rfl
 have g4 := hfl 4 _ rfl
 have g5 := hfl 5 _ rfl
 have g6 := hfl 6 _ rfl
 have g7 := hfl 7 _ rfl
 simp [cZ_int, cZ_u64, cZ_i64, cZ_cs] at g0 g1 g2 g3 g4 g5 g6 g7
 obtain ⟨v0, e0, _, _⟩ := DataW.trod_int Tryd.underlying3 g0
 obtain ⟨v1, e1, _, w1⟩ := DataW.trod_int Tryd.underlying26 g1
 obtain ⟨v2, e2, _, _⟩ := DataW.trod_int Tryd.underlying3 g2
 obtain ⟨v3, e3, _, _⟩ := DataW.trod_int Tryd.underlying3 g3
 obtain ⟨v4, e4, _, _⟩ := DataW.trod_int Tryd.underlying2 g4
 obtain ⟨v5, e5, _, _⟩ := DataW.trod_int Tryd.underlying3 g5
 obtain ⟨v7, e7, _, _⟩ := DataW.trod_int Tryd.underlying3 g7
 obtain ⟨co, cn, cp, e6, hn, hc, D6, sp, hsl, hrd⟩ := open_rowsZ KCc (fun _ _ => True) Tryd.underlying37 cZ_cm one_cmZ g6
 simp at e0 e1 e2 e3 e4 e5 e6 e7
 subst e0 e1 e2 e3 e4 e5 e6 e7
 obtain ⟨L, hL⟩ : ∃ L : List Cc, cn <= 281474976710656 -> RdG KCc w co cn L := by
  by_cases h48 : cn <= 281474976710656
  ·obtain ⟨L, hL, _⟩ := hrd h48
   exact ⟨L, fun _ => hL⟩
  ·exact ⟨[], fun h => absurd h h48⟩
 refine ⟨⟨v0, v1, v2, v3, v4, v5, L, v7⟩, co, cn, cp, rfl, wfZ_u64 w1, hn, hc, hL, z0.1, z1.1, z2.1, z3.1, z4.1, z5.1, z6.1, z7.1, ?_, ?_⟩
 ·rw [hx]; rfl
 ·rcases hsl with h0 | h1
  ·exact .inl h0
  ·exact .inr ⟨_, _, h1, by simp⟩
theorem reach_dgZ {d : DataW H} {D : Dg} {co : Option Addr} {cn cp : Nat} (h : GdZ w d D co cn cp) (hw : ∀ n ∈ d.weights Tryd.prog 39, n <= reachBytes) : cn <= 2513169434843 /\ RdG KCc w co cn D.cs := by
 obtain ⟨_, _, _, hL, d0, d1, d2, d3, d4, d5, d6, d7, e, hs⟩ := h
 have hb : 56 * cn <= 140737488351232 := by
  rcases hs with h0 | ⟨es, sp, h1, h2⟩
  ·omega
  ·have h3 : (es.length + sp.length) * 56 ∈ d6.weights Tryd.prog 37 := by
    rw [h1]
    simp [DataW.weights, Tryd.underlying37, bZ_cm]
   have h4 := hw ((es.length + sp.length) * 56) (by
    rw [e]
    simp only [DataW.weights, Tryd.underlying39]
    exact DataW.weights_mem_each (j := 6) (t := 37) (d := d6) rfl rfl _ h3)
   have hr : reachBytes = 140737488351232 := rfl
   omega
 exact ⟨by omega, hL (by omega)⟩
def GlZ (w : World) (d : DataW H) (y : Opq) : Prop := In64 y.kd /\ In64 y.wh /\ In64 y.n /\ (0 <= y.ss /\ y.ss < 18446744073709551616) /\ ∃ d0 d1 d2 d3 d4 d5 d6 d7 d8 d9 d10 : DataW H, d = .agg [d0, d1, d2, d3, d4, d5, d6, d7, d8, d9, d10] /\ GdZ w d5 y.d y.co y.cn y.cp
theorem one_opZ {fuel : Nat} {cs : List Value} {x : DataW H × List MemPlace} (hl : cs.length = KOq.k) (h : DataW.trod enc Tryd.prog w 0 (fun _ => true) true fuel 41 cs = some x) : ∃ y : Opq, cs = KOq.f y /\ GlZ w x.1 y := by
 obtain ⟨x0, x1, x2, x3, x4, x5, x6, x7, x8, x9, x10, x11, x12, x13, x14, x15, x16, x17, x18, x19, x20, x21, x22, x23, rfl⟩ := listG24 (l := cs) hl
 obtain ⟨xs, n, _, hx, _, hlen, hfl⟩ := DataW.trod_struct Tryd.underlying41 h
 obtain ⟨z0, z1, z2, z3, z4, z5, z6, z7, z8, z9, z10, rfl⟩ := listG11 (l := xs) (by simpa using hlen)
 have g0 := hfl 0 _ rfl
 have g1 := hfl 1 _ rfl
 have g2 := hfl 2 _ rfl
 have g3 := hfl 3 _ rfl
 have g4 := hfl 4 _ rfl
 have g5 := hfl 5 _ rfl
 have g6 := hfl 6 _ rfl
 have g7 := hfl 7 _ rfl
 have g8 := hfl 8 _ rfl
 have g9 := hfl 9 _ rfl
 have g10 := hfl 10 _ rfl
 simp [cZ_int, cZ_u64, cZ_i64, cZ_bool, cZ_cm, cZ_dg] at g0 g1 g2 g3 g4 g5 g6 g7 g8 g9 g10
 obtain ⟨a0, e0, _, w0⟩ := DataW.trod_int Tryd.underlying3 g0
 obtain ⟨a1, e1, _, w1⟩ := DataW.trod_int Tryd.underlying3 g1
 obtain ⟨c2, e2, _⟩ := one_cmZ rfl g2
 obtain ⟨a3, e3, _, _⟩ := DataW.trod_int Tryd.underlying2 g3
 obtain ⟨a4, e4, _, _⟩ := DataW.trod_int Tryd.underlying2 g4
 obtain ⟨D5, co, cn, cp, e5, k5⟩ := one_dgZ rfl g5
 obtain ⟨a6, e6, _, w6⟩ := DataW.trod_int Tryd.underlying3 g6
 obtain ⟨a7, e7, _⟩ := DataW.trod_bool Tryd.underlying4 g7
 obtain ⟨a8, e8, _, w8⟩ := DataW.trod_int Tryd.underlying26 g8
 obtain ⟨a9, e9, _, _⟩ := DataW.trod_int Tryd.underlying3 g9
 obtain ⟨a10, e10, _, _⟩ := DataW.trod_int Tryd.underlying3 g10
 simp [KCc] at e0 e1 e2 e3 e4 e5 e6 e7 e8 e9 e10
 obtain ⟨rfl, rfl, rfl, rfl, rfl, rfl, rfl⟩ := e2
 obtain ⟨rfl, rfl, rfl, rfl, rfl, rfl, rfl, rfl⟩ := e5
 subst e0 e1 e3 e4 e6 e7 e8 e9 e10
 refine ⟨⟨a0, a1, c2, a3, a4, D5, co, cn, cp, a6, a7, a8, a9, a10⟩, rfl, wfG_i64 w0, wfG_i64 w1, wfG_i64 w6, wfZ_u64 w8, z0.1, z1.1, z2.1, z3.1, z4.1, z5.1, z6.1, z7.1, z8.1, z9.1, z10.1, ?_, k5⟩
 rw [hx]; rfl
theorem open_opsZ {fuel : Nat} {cs : List Value} {x : DataW H × List MemPlace} (h : DataW.trod enc Tryd.prog w 0 (fun _ => true) true fuel 22 cs = some x) (hw : ∀ y ∈ x.1.weights Tryd.prog 22, y <= reachBytes) :
  ∃ so n cap, cs = [.slice so n cap] /\ 208 * n <= 140737488351232 /\ ∃ L, RdG KOq w so n L /\ ∀ i, i < n -> OpOk w (L.getD i KOq.d) := by
 obtain ⟨so, n, cap, e, _, _, D, sp, hd, hL⟩ := open_rowsZ KOq (GlZ w) Tryd.underlying22 cZ_op one_opZ h
 obtain ⟨h1, h2⟩ := reach_rowsZ Tryd.underlying22 hd hw
 rw [bZ_op] at h1
 have hr : reachBytes = 140737488351232 := rfl
 obtain ⟨L, hrd, hp⟩ := hL (by omega)
 refine ⟨so, n, cap, e, by omega, L, hrd, fun i hi => ?_⟩
 obtain ⟨k1, k2, k3, k4, d0, d1, d2, d3, d4, d5, d6, d7, d8, d9, d10, e, k5⟩ := hp i hi
 have k6 := reach_dgZ k5 (fun y hy => h2 i hi y (by
  rw [e]
  simp only [DataW.weights, Tryd.underlying41]
  exact DataW.weights_mem_each (j := 5) (t := 39) (d := d5) rfl rfl y hy))
 have hl := k6.2.1
 exact ⟨k1, k2, k3, k4, ⟨hl, k6.1⟩, ⟨by rw [hl]; exact k6.2, by rw [hl]; exact k5.2.1, k5.2.2.1⟩, fun a ha => k6.2.blk ha⟩
end
def strsDataZ {H : Type} (l : List ByteArray) : DataW H := .agg (l.map fun b => .lit (.string b.data.toList))
theorem strs_atZ {W : World} {name : String} {g t n : Nat} {l : List ByteArray} (hg : Tryd.prog.globalNamed name = some g) (hty : (Tryd.prog.globals[g]?).map (·.type) = some t) (hu : Tryd.prog.underlying t = some (.array n 9)) (hn : l.length = n)
  (h : Lib.VarReads Tryd.prog W name (strsDataZ l)) (i : Nat) (hi : i < n) : W.cell? ⟨g, i, none⟩ = some (.string (l.getD i ByteArray.empty)) := by
 obtain ⟨g', t', cs, fuel, p, hg', hty', hvar, hd⟩ := h
 obtain rfl := Option.some.inj (hg.symm.trans hg')
 obtain rfl := Option.some.inj (hty.symm.trans hty')
 obtain ⟨fuel', d, q, hdi, he⟩ := Lib.array_elem hu hd i hi
 rw [cZ_st, Nat.mul_one] at he
 obtain ⟨s, e1, e2, _⟩ := DataW.trod_string Tryd.underlying9 he
 have hl : i < l.length := by omega
 rw [List.getElem?_map, List.getElem?_eq_getElem hl, Option.map_some, Option.some.injEq] at hdi
 have e3 : d = .lit (.string s.data.toList) := congrArg Prod.fst e2
 rw [<- hdi] at e3
 have e4 : (l[i]'hl).data.toList = s.data.toList := by simpa using e3
 have e5 : l[i]'hl = s := ByteArray.ext (Array.toList_inj.1 e4)
 have e0 := congrArg (·[0]?) e1
 simp only [List.getElem?_take, List.getElem?_drop] at e0
 rw [World.var?_cell hg hvar i, <- Array.getElem?_toList]
 simp at e0
 rw [List.getD_eq_getElem?_getD, List.getElem?_eq_getElem hl]
 simp only [Option.getD_some, e5]
 simpa using e0
theorem ints_atZ {W : World} {name : String} {g t n : Nat} {l : List Int} (hg : Tryd.prog.globalNamed name = some g) (hty : (Tryd.prog.globals[g]?).map (·.type) = some t) (hu : Tryd.prog.underlying t = some (.array n 3)) (hc : Tryd.prog.cellsOf t = n) (hn : l.length = n)
  (h : Lib.VarReads Tryd.prog W name (Lib.tabData .i64 l)) (i : Nat) (hi : i < n) : W.cell? ⟨g, i, none⟩ = some (.int .i64 (l.getD i 0)) := by
 obtain ⟨g', t', cs, fuel, p, hg', hty', hvar, hd⟩ := h
 obtain rfl := Option.some.inj (hg.symm.trans hg')
 obtain rfl := Option.some.inj (hty.symm.trans hty')
 have hcs := Lib.cells_of_tab hu Tryd.underlying3 cZ_int hc hd
 rw [World.var?_cell hg hvar i, <- Array.getElem?_toList, hcs]
 have hl : i < l.length := by omega
 simp [hl]
theorem otab_readsZ {W : World} (h2 : Lib.VarReads Tryd.prog W "echelon/echelonref07.first" (strsDataZ fsL))
    (h3 : Lib.VarReads Tryd.prog W "echelon/echelonref07.least" (Lib.tabData .i64 loL)) (h4 : Lib.VarReads Tryd.prog W "echelon/echelonref07.most" (Lib.tabData .i64 hiL)) : OTab W :=
  ⟨fun d hd => strs_atZ (t := 102) (n := 7) (by kernel_rfl) (by kernel_rfl) Tryd.underlying102 rfl h2 d hd,
   fun d hd => ints_atZ (t := 103) (n := 7) (by kernel_rfl) (by kernel_rfl) Tryd.underlying103 (by kernel_rfl) rfl h3 d hd,
   fun d hd => ints_atZ (t := 103) (n := 7) (by kernel_rfl) (by kernel_rfl) Tryd.underlying103 (by kernel_rfl) rfl h4 d hd⟩
theorem otabZ {W : World} {r : List (String × DataW Unit)} (hL : laidMet Tryd.prog (("echelon/echelonref07.first", Rows.laid_echelon_echelonref07_first) :: ("echelon/echelonref07.least", Rows.laid_echelon_echelonref07_least) :: ("echelon/echelonref07.most", Rows.laid_echelon_echelonref07_most) :: r) W) : OTab W := by
 have hM : laidMet Tryd.prog (("echelon/echelonref07.first", strsDataZ fsL) :: ("echelon/echelonref07.least", Lib.tabData .i64 loL) :: ("echelon/echelonref07.most", Lib.tabData .i64 hiL) :: r) W := hL
 exact otab_readsZ (Lib.laidMet.reads hM (.head _)) (Lib.laidMet.reads hM (.tail _ (.head _))) (Lib.laidMet.reads hM (.tail _ (.tail _ (.head _))))
theorem OTab.ng {w : World} (h : OTab w) : 3 <= w.heap.size := by
 have a := World.block_lt_of_cell? w _ (h.fs 0 (by decide))
 have b := World.block_lt_of_cell? w _ (h.lo 0 (by decide))
 have c := World.block_lt_of_cell? w _ (h.hi 0 (by decide))
 simp only at a b c
 omega
end Go.Proofs.YtnbofjaecchnaaaDoor
