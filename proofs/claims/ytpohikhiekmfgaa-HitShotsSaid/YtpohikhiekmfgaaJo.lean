/- Arguments opened: movers, shots, pickups, points. -/
import Derived.Test.YtpohikhiekmfgaaGb
import Derived.Test.YtpohikhiekmfgaaJj
namespace Go.Proofs.Ytpohikhiekmfgaa
open Go.ChangeShapes Go.WideShapes Go.ChangeAt Go.RowKit Go.Deep
open Pu Gp Ap Vp Np Za Ka Ja
set_option maxRecDepth 100000

theorem cellsG_int : Try.prog.cellsOf 3 = 1 := by kernel_rfl
theorem cellsG_pt : Try.prog.cellsOf 33 = 2 := by kernel_rfl
theorem cellsG_bool : Try.prog.cellsOf 4 = 1 := by kernel_rfl
theorem cellsG_mv : Try.prog.cellsOf 35 = 13 := by kernel_rfl
theorem cellsG_sh : Try.prog.cellsOf 49 = 8 := by kernel_rfl
theorem cellsG_pk : Try.prog.cellsOf 57 = 3 := by kernel_rfl
def KP : Kd Pk := ⟨fun p => [.int .i64 p.no, .int .i64 p.sp, .int .i64 p.kd], 3, zK, fun _ => rfl, fun m u hu => by
  simp at hu
  rcases hu with rfl | rfl | rfl <;> rfl, by decide⟩
theorem rdK_of {w : World} {ao : Option Addr} {n : Nat} {L : List Pk} (h : RdG KP w ao n L) : RdK w ao n L := by
  refine ⟨h.1, h.2.1, ?_⟩
  rcases h.2.2 with h0 | ⟨B, o, e, hc⟩
  · exact .inl h0
  · exact .inr ⟨B, o, e, fun i hi => ⟨hc i hi 0 _ rfl, hc i hi 1 _ rfl, hc i hi 2 _ rfl⟩⟩
section
variable {H : Type} {enc : TypeId × Value → H} {w : World}
theorem one_pt {fuel : Nat} {cs : List Value} {x : DataW H × List MemPlace} (hl : cs.length = 2) (h : DataW.trod enc Try.prog w 0 (fun _ => true) true fuel 33 cs = some x) : ∃ y : Int × Int, cs = KT.f y ∧ True := by
  obtain ⟨x0, x1, rfl⟩ := listG2 hl
  obtain ⟨xs, n, _, _, _, hlen, hfl⟩ := DataW.trod_struct Try.underlying33 h
  obtain ⟨z0, z1, rfl⟩ := listG2 (l := xs) (by simpa using hlen)
  have g0 := hfl 0 _ rfl
  have g1 := hfl 1 _ rfl
  simp [cellsG_int] at g0 g1
  obtain ⟨a, e0, _, _⟩ := DataW.trod_int Try.underlying3 g0
  obtain ⟨b, e1, _, _⟩ := DataW.trod_int Try.underlying3 g1
  simp at e0 e1
  subst e0 e1
  exact ⟨(a, b), rfl, trivial⟩
theorem one_pk {fuel : Nat} {cs : List Value} {x : DataW H × List MemPlace} (hl : cs.length = 3) (h : DataW.trod enc Try.prog w 0 (fun _ => true) true fuel 57 cs = some x) : ∃ y : Pk, cs = KP.f y ∧ True := by
  obtain ⟨x0, x1, x2, rfl⟩ := listG3 hl
  obtain ⟨xs, n, _, _, _, hlen, hfl⟩ := DataW.trod_struct Try.underlying57 h
  obtain ⟨z0, z1, z2, rfl⟩ := listG3 (l := xs) (by simpa using hlen)
  have g0 := hfl 0 _ rfl
  have g1 := hfl 1 _ rfl
  have g2 := hfl 2 _ rfl
  simp [cellsG_int] at g0 g1 g2
  obtain ⟨a, e0, _, _⟩ := DataW.trod_int Try.underlying3 g0
  obtain ⟨b, e1, _, _⟩ := DataW.trod_int Try.underlying3 g1
  obtain ⟨c, e2, _, _⟩ := DataW.trod_int Try.underlying3 g2
  simp at e0 e1 e2
  subst e0 e1 e2
  exact ⟨⟨a, b, c⟩, rfl, trivial⟩
theorem one_sh {fuel : Nat} {cs : List Value} {x : DataW H × List MemPlace} (hl : cs.length = 8) (h : DataW.trod enc Try.prog w 0 (fun _ => true) true fuel 49 cs = some x) : ∃ y : Sh, cs = KS.f y ∧ True := by
  obtain ⟨x0, x1, x2, x3, x4, x5, x6, x7, rfl⟩ := listG8 hl
  obtain ⟨xs, n, _, _, _, hlen, hfl⟩ := DataW.trod_struct Try.underlying49 h
  obtain ⟨z0, z1, z2, z3, z4, z5, rfl⟩ := listG6 (l := xs) (by simpa using hlen)
  have g0 := hfl 0 _ rfl
  have g1 := hfl 1 _ rfl
  have g2 := hfl 2 _ rfl
  have g3 := hfl 3 _ rfl
  have g4 := hfl 4 _ rfl
  have g5 := hfl 5 _ rfl
  simp [cellsG_int, cellsG_pt] at g0 g1 g2 g3 g4 g5
  obtain ⟨a0, e0, _, _⟩ := DataW.trod_int Try.underlying3 g0
  obtain ⟨a1, e1, _, _⟩ := DataW.trod_int Try.underlying3 g1
  obtain ⟨a2, e2, _, _⟩ := DataW.trod_int Try.underlying3 g2
  obtain ⟨⟨a3, a4⟩, e3, _⟩ := one_pt rfl g3
  obtain ⟨⟨a5, a6⟩, e4, _⟩ := one_pt rfl g4
  obtain ⟨a7, e5, _, _⟩ := DataW.trod_int Try.underlying3 g5
  simp [KT] at e0 e1 e2 e3 e4 e5
  obtain ⟨rfl, rfl⟩ := e3
  obtain ⟨rfl, rfl⟩ := e4
  subst e0 e1 e2 e5
  exact ⟨⟨a0, a1, a2, a3, a4, a5, a6, a7⟩, rfl, trivial⟩
theorem one_mv {fuel : Nat} {cs : List Value} {x : DataW H × List MemPlace} (hl : cs.length = 13) (h : DataW.trod enc Try.prog w 0 (fun _ => true) true fuel 35 cs = some x) : ∃ y : Mv, cs = KM.f y ∧ True := by
  obtain ⟨x0, x1, x2, x3, x4, x5, x6, x7, x8, x9, x10, x11, x12, rfl⟩ := listG13 hl
  obtain ⟨xs, n, _, _, _, hlen, hfl⟩ := DataW.trod_struct Try.underlying35 h
  obtain ⟨z0, z1, z2, z3, z4, z5, z6, z7, z8, z9, rfl⟩ := listG10 (l := xs) (by simpa using hlen)
  have g0 := hfl 0 _ rfl
  have g1 := hfl 1 _ rfl
  have g2 := hfl 2 _ rfl
  have g3 := hfl 3 _ rfl
  have g4 := hfl 4 _ rfl
  have g5 := hfl 5 _ rfl
  have g6 := hfl 6 _ rfl
  have g7 := hfl 7 _ rfl
  have g8 := hfl 8 _ rfl
  have g9 := hfl 9 _ rfl
  simp [cellsG_int, cellsG_pt, cellsG_bool] at g0 g1 g2 g3 g4 g5 g6 g7 g8 g9
  obtain ⟨⟨a0, a1⟩, e0, _⟩ := one_pt rfl g0
  obtain ⟨⟨a2, a3⟩, e1, _⟩ := one_pt rfl g1
  obtain ⟨⟨a4, a5⟩, e2, _⟩ := one_pt rfl g2
  obtain ⟨a6, e3, _, _⟩ := DataW.trod_int Try.underlying3 g3
  obtain ⟨a7, e4, _, _⟩ := DataW.trod_int Try.underlying3 g4
  obtain ⟨a8, e5, _, _⟩ := DataW.trod_int Try.underlying3 g5
  obtain ⟨a9, e6, _⟩ := DataW.trod_bool Try.underlying4 g6
  obtain ⟨a10, e7, _, _⟩ := DataW.trod_int Try.underlying3 g7
  obtain ⟨a11, e8, _, _⟩ := DataW.trod_int Try.underlying3 g8
  obtain ⟨a12, e9, _, _⟩ := DataW.trod_int Try.underlying3 g9
  simp [KT] at e0 e1 e2 e3 e4 e5 e6 e7 e8 e9
  obtain ⟨rfl, rfl⟩ := e0
  obtain ⟨rfl, rfl⟩ := e1
  obtain ⟨rfl, rfl⟩ := e2
  subst e3 e4 e5 e6 e7 e8 e9
  exact ⟨⟨a0, a1, a2, a3, a4, a5, a6, a7, a8, a9, a10, a11, a12⟩, rfl, trivial⟩
theorem open_mvG {r : Reach} {b0 : Nat} {v : Value} {d : DataW H} {p : List MemPlace} (hv : Value.okWide Try.prog w r b0 35 v) (h : DataW.Trod enc Try.prog w 0 (fun _ => true) true 35 v d p) :
    ∃ m : Mv, v = mv m := by
  obtain ⟨cs, rfl, hsz⟩ := okWide_struct Try.underlying35 hv
  obtain ⟨l⟩ := cs
  obtain ⟨fuel, hf⟩ := h
  have hl4 : l.length = 13 := by simpa using hsz.trans cellsG_mv
  obtain ⟨y, e, hy⟩ := one_mv (by simpa [Value.cells] using hl4) hf
  have e' : l = KM.f y := by simpa [Value.cells] using e
  subst e'
  exact ⟨y, rfl⟩
theorem open_ms {fuel : Nat} {cs : List Value} {x : DataW H × List MemPlace} (h : DataW.trod enc Try.prog w 0 (fun _ => true) true fuel 22 cs = some x) :
    ∃ so n cap, cs = [.slice so n cap] ∧ n ≤ cap ∧ (n ≤ 281474976710656 → ∃ L, RdG KM w so n L ∧ ∀ i, i < n → True) ∧ (so = none → cap = 0) ∧ (n = 0 ∨ ∃ es sp, x.1 = .slice es sp ∧ es.length = n) :=
  open_rows KM (fun _ => True) Try.underlying22 cellsG_mv one_mv h
theorem open_ss {fuel : Nat} {cs : List Value} {x : DataW H × List MemPlace} (h : DataW.trod enc Try.prog w 0 (fun _ => true) true fuel 39 cs = some x) :
    ∃ so n cap, cs = [.slice so n cap] ∧ n ≤ cap ∧ (n ≤ 281474976710656 → ∃ L, RdG KS w so n L ∧ ∀ i, i < n → True) ∧ (so = none → cap = 0) ∧ (n = 0 ∨ ∃ es sp, x.1 = .slice es sp ∧ es.length = n) :=
  open_rows KS (fun _ => True) Try.underlying39 cellsG_sh one_sh h
theorem open_pts {fuel : Nat} {cs : List Value} {x : DataW H × List MemPlace} (h : DataW.trod enc Try.prog w 0 (fun _ => true) true fuel 43 cs = some x) :
    ∃ so n cap, cs = [.slice so n cap] ∧ n ≤ cap ∧ (n ≤ 281474976710656 → ∃ L, RdG KT w so n L ∧ ∀ i, i < n → True) ∧ (so = none → cap = 0) ∧ (n = 0 ∨ ∃ es sp, x.1 = .slice es sp ∧ es.length = n) :=
  open_rows KT (fun _ => True) Try.underlying43 cellsG_pt one_pt h
theorem open_pks {fuel : Nat} {cs : List Value} {x : DataW H × List MemPlace} (h : DataW.trod enc Try.prog w 0 (fun _ => true) true fuel 42 cs = some x) :
    ∃ so n cap, cs = [.slice so n cap] ∧ n ≤ cap ∧ (n ≤ 281474976710656 → ∃ L, RdK w so n L ∧ True) ∧ (so = none → cap = 0) ∧ (n = 0 ∨ ∃ es sp, x.1 = .slice es sp ∧ es.length = n) := by
  obtain ⟨so, n, cap, h1, h2, h3, h4, h5⟩ := open_rows KP (fun _ => True) Try.underlying42 cellsG_pk one_pk h
  exact ⟨so, n, cap, h1, h2, fun hn => by
    obtain ⟨L, hL, _⟩ := h3 hn
    exact ⟨L, rdK_of hL, trivial⟩, h4, h5⟩
end
end Go.Proofs.Ytpohikhiekmfgaa
