/- Parts of the proof, laid end to end. -/
import Derived.Test.YthcjckgmdokmdaaGreatDoorXS42
import Derived.Test.YthcjckgmdokmdaaGreatDoorXS33
import Derived.Deep.Slices
import Derived.Deep.Fields
import Derived.ProofKit
import Derived.Lay
import Derived.LaidMore
import Derived.Stop.Joined
import Derived.Stop.LaidErr
import Derived.Lib.LaidTab
import Derived.Lib.LaidU8
import Derived.KernelRfl
import Derived.SizedLaws
namespace Go.Proofs.YthcjckgmdokmdaaGreatDoor
open Go.ChangeShapes Go.WideShapes Go.ChangeAt Go.RowKit Go.Deep
open Pu Gp Ap Vp Np Za Ka Ja Ea Ha Hg Hi
set_option maxRecDepth 100000
theorem cellsG_int : Tryz.prog.cellsOf 3 = 1 := by kernel_rfl
theorem cellsG_pt : Tryz.prog.cellsOf 54 = 2 := by kernel_rfl
theorem cellsG_bool : Tryz.prog.cellsOf 4 = 1 := by kernel_rfl
theorem cellsG_mv : Tryz.prog.cellsOf 56 = 13 := by kernel_rfl
theorem cellsG_sh : Tryz.prog.cellsOf 122 = 8 := by kernel_rfl
theorem cellsG_pk : Tryz.prog.cellsOf 124 = 3 := by kernel_rfl
theorem cellsW_sc : Tryz.prog.cellsOf 61 = 4 := by kernel_rfl
theorem cellsW_i64 : Tryz.prog.cellsOf 2 = 1 := by kernel_rfl
theorem cellsW_u64 : Tryz.prog.cellsOf 22 = 1 := by kernel_rfl
theorem cellsW_str : Tryz.prog.cellsOf 9 = 1 := by kernel_rfl
theorem cellsW_ar : Tryz.prog.cellsOf 24 = 3 := by kernel_rfl
theorem cellsW_cf : Tryz.prog.cellsOf 27 = 6 := by kernel_rfl
theorem cellsW_wd : Tryz.prog.cellsOf 33 = 6 := by kernel_rfl
theorem cellsW_li : Tryz.prog.cellsOf 25 = 1 := by kernel_rfl
theorem cellsW_lm : Tryz.prog.cellsOf 28 = 1 := by kernel_rfl
theorem cellsW_lc : Tryz.prog.cellsOf 29 = 1 := by kernel_rfl
theorem cellsW_ls : Tryz.prog.cellsOf 30 = 1 := by kernel_rfl
theorem cellsW_lp : Tryz.prog.cellsOf 31 = 1 := by kernel_rfl
section
variable {H : Type} {enc : TypeId × Value -> H} {w : World}
theorem one_pt {fuel : Nat} {cs : List Value} {x : DataW H × List MemPlace} (hl : cs.length = 2) (h : DataW.trod enc Tryz.prog w 0 (fun _ => true) true fuel 54 cs = some x) : ∃ y : Int × Int, cs = KT.f y /\ True := by
 obtain ⟨x0, x1, rfl⟩ := listG2 hl
 obtain ⟨xs, n, _, _, _, hlen, hfl⟩ := DataW.trod_struct Tryz.underlying54 h
 obtain ⟨z0, z1, rfl⟩ := listG2 (l := xs) (by simpa using hlen)
 have g0 := hfl 0 _ rfl
 have g1 := hfl 1 _ rfl
 simp [cellsG_int] at g0 g1
 obtain ⟨a, e0, _, _⟩ := DataW.trod_int Tryz.underlying3 g0
 obtain ⟨b, e1, _, _⟩ := DataW.trod_int Tryz.underlying3 g1
 simp at e0 e1
 subst e0 e1
 exact ⟨(a, b), rfl, trivial⟩
theorem one_pkQ {fuel : Nat} {cs : List Value} {x : DataW H × List MemPlace} (hl : cs.length = 3) (h : DataW.trod enc Tryz.prog w 0 (fun _ => true) true fuel 124 cs = some x) : ∃ y : Pk, cs = KQ.f y /\ True := by
 obtain ⟨x0, x1, x2, rfl⟩ := listG3 hl
 obtain ⟨xs, n, _, _, _, hlen, hfl⟩ := DataW.trod_struct Tryz.underlying124 h
 obtain ⟨z0, z1, z2, rfl⟩ := listG3 (l := xs) (by simpa using hlen)
 have g0 := hfl 0 _ rfl
 have g1 := hfl 1 _ rfl
 have g2 := hfl 2 _ rfl
 simp [cellsG_int] at g0 g1 g2
 obtain ⟨a, e0, _, _⟩ := DataW.trod_int Tryz.underlying3 g0
 obtain ⟨b, e1, _, _⟩ := DataW.trod_int Tryz.underlying3 g1
 obtain ⟨c, e2, _, _⟩ := DataW.trod_int Tryz.underlying3 g2
 simp at e0 e1 e2
 subst e0 e1 e2
 exact ⟨⟨a, b, c⟩, rfl, trivial⟩
theorem one_sh {fuel : Nat} {cs : List Value} {x : DataW H × List MemPlace} (hl : cs.length = 8) (h : DataW.trod enc Tryz.prog w 0 (fun _ => true) true fuel 122 cs = some x) : ∃ y : Sh, cs = KS.f y /\ True := by
 obtain ⟨x0, x1, x2, x3, x4, x5, x6, x7, rfl⟩ := listG8 hl
 obtain ⟨xs, n, _, _, _, hlen, hfl⟩ := DataW.trod_struct Tryz.underlying122 h
 obtain ⟨z0, z1, z2, z3, z4, z5, rfl⟩ := listG6 (l := xs) (by simpa using hlen)
 have g0 := hfl 0 _ rfl
 have g1 := hfl 1 _ rfl
 have g2 := hfl 2 _ rfl
 have g3 := hfl 3 _ rfl
 have g4 := hfl 4 _ rfl
 have g5 := hfl 5 _ rfl
 simp [cellsG_int, cellsG_pt] at g0 g1 g2 g3 g4 g5
 obtain ⟨a0, e0, _, _⟩ := DataW.trod_int Tryz.underlying3 g0
 obtain ⟨a1, e1, _, _⟩ := DataW.trod_int Tryz.underlying3 g1
 obtain ⟨a2, e2, _, _⟩ := DataW.trod_int Tryz.underlying3 g2
 obtain ⟨⟨a3, a4⟩, e3, _⟩ := one_pt rfl g3
 obtain ⟨⟨a5, a6⟩, e4, _⟩ := one_pt rfl g4
 obtain ⟨a7, e5, _, _⟩ := DataW.trod_int Tryz.underlying3 g5
 simp [KT] at e0 e1 e2 e3 e4 e5
 obtain ⟨rfl, rfl⟩ := e3
 obtain ⟨rfl, rfl⟩ := e4
 subst e0 e1 e2 e5
 exact ⟨⟨a0, a1, a2, a3, a4, a5, a6, a7⟩, rfl, trivial⟩
theorem one_mv {fuel : Nat} {cs : List Value} {x : DataW H × List MemPlace} (hl : cs.length = 13) (h : DataW.trod enc Tryz.prog w 0 (fun _ => true) true fuel 56 cs = some x) : ∃ y : Mv, cs = KM.f y /\ True := by
 obtain ⟨x0, x1, x2, x3, x4, x5, x6, x7, x8, x9, x10, x11, x12, rfl⟩ := listG13 hl
 obtain ⟨xs, n, _, _, _, hlen, hfl⟩ := DataW.trod_struct Tryz.underlying56 h
 obtain ⟨z0, z1, z2, z3, z4, z5, z6, z7, z8, z9, rfl⟩ := listG10 (l := xs) (by simpa using hlen)
 have g0 := hfl 0 _ rfl
 have g1 := hfl 1 _ rfl
 have g2 := hfl 2 _ rfl
 have g3 := hfl 3 _ rfl
 have g4 := hfl 4 _ rfl
 have g5 := hfl 5 _ rfl
 have g6 := hfl 6 _ rfl
 have g7 := hfl 7 _ rfl
 have g8 := hfl 8 _ rfl
 have g9 := hfl 9 _ rfl
 simp [cellsG_int, cellsG_pt, cellsG_bool] at g0 g1 g2 g3 g4 g5 g6 g7 g8 g9
 obtain ⟨⟨a0, a1⟩, e0, _⟩ := one_pt rfl g0
 obtain ⟨⟨a2, a3⟩, e1, _⟩ := one_pt rfl g1
 obtain ⟨⟨a4, a5⟩, e2, _⟩ := one_pt rfl g2
 obtain ⟨a6, e3, _, _⟩ := DataW.trod_int Tryz.underlying3 g3
 obtain ⟨a7, e4, _, _⟩ := DataW.trod_int Tryz.underlying3 g4
 obtain ⟨a8, e5, _, _⟩ := DataW.trod_int Tryz.underlying3 g5
 obtain ⟨a9, e6, _⟩ := DataW.trod_bool Tryz.underlying4 g6
 obtain ⟨a10, e7, _, _⟩ := DataW.trod_int Tryz.underlying3 g7
 obtain ⟨a11, e8, _, _⟩ := DataW.trod_int Tryz.underlying3 g8
 obtain ⟨a12, e9, _, _⟩ := DataW.trod_int Tryz.underlying3 g9
 simp [KT] at e0 e1 e2 e3 e4 e5 e6 e7 e8 e9
 obtain ⟨rfl, rfl⟩ := e0
 obtain ⟨rfl, rfl⟩ := e1
 obtain ⟨rfl, rfl⟩ := e2
 subst e3 e4 e5 e6 e7 e8 e9
 exact ⟨⟨a0, a1, a2, a3, a4, a5, a6, a7, a8, a9, a10, a11, a12⟩, rfl, trivial⟩
theorem one_scQ {fuel : Nat} {cs : List Value} {x : DataW H × List MemPlace} (hl : cs.length = 4) (h : DataW.trod enc Tryz.prog w 0 (fun _ => true) true fuel 61 cs = some x) : ∃ y : Scr, cs = KC.f y /\ True := by
 obtain ⟨x0, x1, x2, x3, rfl⟩ := listG4 hl
 obtain ⟨xs, n, _, _, _, hlen, hfl⟩ := DataW.trod_struct Tryz.underlying61 h
 obtain ⟨z0, z1, z2, z3, rfl⟩ := listG4 (l := xs) (by simpa using hlen)
 have g0 := hfl 0 _ rfl
 have g1 := hfl 1 _ rfl
 have g2 := hfl 2 _ rfl
 have g3 := hfl 3 _ rfl
 simp [cellsG_int] at g0 g1 g2 g3
 obtain ⟨a, e0, _, w0⟩ := DataW.trod_int Tryz.underlying3 g0
 obtain ⟨b, e1, _, w1⟩ := DataW.trod_int Tryz.underlying3 g1
 obtain ⟨c, e2, _, w2⟩ := DataW.trod_int Tryz.underlying3 g2
 obtain ⟨d, e3, _, w3⟩ := DataW.trod_int Tryz.underlying3 g3
 simp at e0 e1 e2 e3
 subst e0 e1 e2 e3
 exact ⟨⟨a, b, c, d⟩, rfl, trivial⟩
theorem open_lags {fuel : Nat} {cs : List Value} {x : DataW H × List MemPlace} (h : DataW.trod enc Tryz.prog w 0 (fun _ => true) true fuel 25 cs = some x) :
  ∃ (ao : Option Addr) (n cap : Nat) (bs : List Int), cs = [.slice ao n cap] /\ RdI w ao n cap bs := by
 rcases open_ints Tryz.underlying25 Tryz.underlying3 cellsG_int h with ⟨rfl, rfl⟩ | ⟨a, len, cap, zs, rfl, _, hl, hm, hz, rfl, hcell, hwz⟩
 ·exact ⟨none, 0, 0, [], rfl, RdI.empty w⟩
 ·simp only [if_true] at hz
  refine ⟨some a, len, cap, zs.take len, rfl, ⟨by simp; omega, hl, hm, ?_, fun h => (by cases h), ?_⟩⟩
  ·intro a' ha hp
   cases ha
   have := hcell 0 (by omega)
   simpa [Addr.add] using World.cell?_spot this
  ·intro a' ha j hj
   cases ha
   simp at hj
   have h1 := hcell j (by omega)
   have hsp : a.spot = none := by
    have := hcell 0 (by omega)
    simpa [Addr.add] using World.cell?_spot this
   obtain ⟨b, o, s⟩ := a
   simp at hsp
   subst hsp
   rw [add_plain] at h1
   rw [h1]
   have hjz : j < zs.length := by omega
   simp [List.getD, hjz]
theorem open_sl {α : Type} (K : Kd α) {t e : TypeId} {bytes : Nat} (hu : Tryz.prog.underlying t = some (.slice e)) (hce : Tryz.prog.cellsOf e = K.k) (hb : Tryz.prog.bytesOf e = bytes) (hb0 : 1 <= bytes)
  (one : ∀ {fuel : Nat} {cs : List Value} {x : DataW H × List MemPlace}, cs.length = K.k -> DataW.trod enc Tryz.prog w 0 (fun _ => true) true fuel e cs = some x -> ∃ y : α, cs = K.f y /\ True)
  {fuel : Nat} {v : Value} {x : DataW H × List MemPlace} (h : DataW.trod enc Tryz.prog w 0 (fun _ => true) true fuel t [v] = some x) (hw : ∀ n ∈ x.1.weights Tryz.prog t, n <= reachBytes) : ∃ L, Sl K w v L := by
 obtain ⟨so, n, cap, hcs, hn, hrd, hc, hsl⟩ := open_rows K (fun _ => True) hu hce one h
 have hv : v = .slice so n cap := by simpa using hcs
 subst hv
 have h48 : n <= 281474976710656 := by
  rcases hsl with h0 | ⟨es, sp, h1, h2⟩
  ·omega
  ·have := hw ((es.length + sp.length) * bytes) (by rw [h1]; simp [DataW.weights, hu, hb])
   have hr := reachBytes_lt
   have h3 : n * 1 <= (es.length + sp.length) * bytes := Nat.mul_le_mul (by omega) hb0
   omega
 obtain ⟨L, hL, _⟩ := hrd h48
 have hl : L.length = n := hL.1
 subst hl
 exact ⟨L, so, cap, rfl, hn, hc, hL⟩
theorem open_cfg {r : Go.Reach} {b0 : Nat} {v : Value} {d : DataW H} {p : List MemPlace} (hv : Value.okWide Tryz.prog w r b0 27 v) (h : DataW.Trod enc Tryz.prog w 0 (fun _ => true) true 27 v d p) (hw : ∀ n ∈ d.weights Tryz.prog 27, n <= reachBytes) :
  ∃ (p q C R : Int) (s : ByteArray) (lo : Option Addr) (n cap : Nat) (l : List Int), v = .agg #[.int .i64 p, .int .u64 q, .int .i64 C, .int .i64 R, .string s, .slice lo n cap] /\ RdI w lo n cap l /\ s.size <= 281474976710656 /\ C <= 9223372036854775807 := by
 obtain ⟨cs, rfl, hsz⟩ := okWide_struct Tryz.underlying27 hv
 obtain ⟨l⟩ := cs
 obtain ⟨x0, x1, x2, x3, x4, x5, rfl⟩ := listG6 (l := l) (by simpa using hsz.trans cellsW_cf)
 obtain ⟨fuel, hf⟩ := h
 obtain ⟨xs, n, _, hx, _, hlen, hfl⟩ := DataW.trod_struct Tryz.underlying27 hf
 obtain ⟨z0, z1, z2, z3, rfl⟩ := listG4 (l := xs) (by simpa using hlen)
 have g0 := hfl 0 _ rfl
 have g1 := hfl 1 _ rfl
 have g2 := hfl 2 _ rfl
 have g3 := hfl 3 _ rfl
 simp [Value.cells, cellsG_int, cellsW_u64, cellsW_ar, cellsW_li] at g0 g1 g2 g3
 obtain ⟨a, e0, _, w0⟩ := DataW.trod_int Tryz.underlying3 g0
 obtain ⟨b, e1, _, w1⟩ := DataW.trod_int Tryz.underlying22 g1
 obtain ⟨ys, n2, _, hy, _, hlen2, hfl2⟩ := DataW.trod_struct Tryz.underlying24 g2
 obtain ⟨y0, y1, y2, rfl⟩ := listG3 (l := ys) (by simpa using hlen2)
 have k0 := hfl2 0 _ rfl
 have k1 := hfl2 1 _ rfl
 have k2 := hfl2 2 _ rfl
 simp [cellsG_int, cellsW_str] at k0 k1 k2
 obtain ⟨C, f0, _, u0⟩ := DataW.trod_int Tryz.underlying3 k0
 obtain ⟨R, f1, _, _⟩ := DataW.trod_int Tryz.underlying3 k1
 obtain ⟨s, f2, m2, _⟩ := DataW.trod_string Tryz.underlying9 k2
 obtain ⟨lo, ln, lc, bs, e3, hr⟩ := open_lags g3
 simp at e0 e1 e3 f0 f1 f2
 subst e0 e1 e3 f0 f1 f2
 refine ⟨a, b, C, R, s, lo, ln, lc, bs, rfl, hr, ?_, (wfG_i64 u0).2⟩
 have hd : d = .agg ([z0, z1, z2, z3].map (·.1)) := by simpa using congrArg (·.1) hx
 have hd2 : z2.1 = .agg ([y0, y1, y2].map (·.1)) := by simpa using congrArg (·.1) hy
 have := hw s.data.toList.length (by
  rw [hd]
  simp only [DataW.weights, Tryz.underlying27, List.map_cons, List.map_nil, DataW.weightsEach, hd2, Tryz.underlying24, m2]
  simp)
 have hr2 := reachBytes_lt
 rw [Array.length_toList] at this
 show s.data.size <= _
 omega
theorem open_wd {r : Go.Reach} {b0 : Nat} {v : Value} {d : DataW H} {p : List MemPlace} (hv : Value.okWide Tryz.prog w r b0 33 v) (h : DataW.Trod enc Tryz.prog w 0 (fun _ => true) true 33 v d p) (hw : ∀ n ∈ d.weights Tryz.prog 33, n <= reachBytes) :
  ∃ W : Wd, RdW w v W := by
 obtain ⟨cs, rfl, hsz⟩ := okWide_struct Tryz.underlying33 hv
 obtain ⟨l⟩ := cs
 obtain ⟨x0, x1, x2, x3, x4, x5, rfl⟩ := listG6 (l := l) (by simpa using hsz.trans cellsW_wd)
 obtain ⟨fuel, hf⟩ := h
 obtain ⟨xs, n, _, hx, _, hlen, hfl⟩ := DataW.trod_struct Tryz.underlying33 hf
 obtain ⟨z0, z1, z2, z3, z4, z5, rfl⟩ := listG6 (l := xs) (by simpa using hlen)
 have g0 := hfl 0 _ rfl
 have g1 := hfl 1 _ rfl
 have g2 := hfl 2 _ rfl
 have g3 := hfl 3 _ rfl
 have g4 := hfl 4 _ rfl
 have g5 := hfl 5 _ rfl
 simp [Value.cells, cellsG_int, cellsW_i64, cellsW_lm, cellsW_lc, cellsW_ls, cellsW_lp] at g0 g1 g2 g3 g4 g5
 have hd : d = .agg ([z0, z1, z2, z3, z4, z5].map (·.1)) := by simpa using congrArg (·.1) hx
 have hmem : ∀ n, (n ∈ z1.1.weights Tryz.prog 28 \/ n ∈ z2.1.weights Tryz.prog 29 \/ n ∈ z3.1.weights Tryz.prog 30 \/ n ∈ z4.1.weights Tryz.prog 31) -> n <= reachBytes := fun n hn => hw n (by
  rw [hd]
  simp only [DataW.weights, Tryz.underlying33, List.map_cons, List.map_nil, DataW.weightsEach, List.mem_append]
  rcases hn with hn | hn | hn | hn <;> simp [hn])
 obtain ⟨fr, e0, _, _⟩ := DataW.trod_int Tryz.underlying2 g0
 obtain ⟨nx, e5, _, _⟩ := DataW.trod_int Tryz.underlying3 g5
 obtain ⟨L1, h1⟩ := open_sl KM Tryz.underlying28 cellsG_mv (bytes := 104) (by kernel_rfl) (by omega) one_mv g1 (fun n hn => hmem n (.inl hn))
 obtain ⟨L2, h2⟩ := open_sl KC Tryz.underlying29 cellsW_sc (bytes := 32) (by kernel_rfl) (by omega) one_scQ g2 (fun n hn => hmem n (.inr (.inl hn)))
 obtain ⟨L3, h3⟩ := open_sl KS Tryz.underlying30 cellsG_sh (bytes := 64) (by kernel_rfl) (by omega) one_sh g3 (fun n hn => hmem n (.inr (.inr (.inl hn))))
 obtain ⟨L4, h4⟩ := open_sl KQ Tryz.underlying31 cellsG_pk (bytes := 24) (by kernel_rfl) (by omega) one_pkQ g4 (fun n hn => hmem n (.inr (.inr (.inr hn))))
 simp at e0 e5
 subst e0 e5
 exact ⟨⟨fr, L1, L2, L3, L4, nx⟩, x1, x2, x3, x4, rfl, h1, h2, h3, h4⟩
end
theorem weights_all {H : Type} {ts : List TypeId} {ds : List (DataW H)} (h : (DataW.weightsEach Tryz.prog ts ds).all (· <= reachBytes) = true) {j : Nat} {t : TypeId} {d : DataW H} (ht : ts[j]? = some t) (hd : ds[j]? = some d) : ∀ n ∈ d.weights Tryz.prog t, n <= reachBytes := fun n hn => by
 have := List.all_eq_true.1 h _ (DataW.weights_mem_each ht hd _ hn)
 simpa using this
section
variable {H : Type} {enc : TypeId × Value -> H} {w : World}
theorem open_slB {α : Type} (K : Kd α) {t e : TypeId} {bytes : Nat} (hu : Tryz.prog.underlying t = some (.slice e)) (hce : Tryz.prog.cellsOf e = K.k) (hb : Tryz.prog.bytesOf e = bytes) (hb0 : 1 <= bytes)
  (one : ∀ {fuel : Nat} {cs : List Value} {x : DataW H × List MemPlace}, cs.length = K.k -> DataW.trod enc Tryz.prog w 0 (fun _ => true) true fuel e cs = some x -> ∃ y : α, cs = K.f y /\ True)
  {fuel : Nat} {v : Value} {x : DataW H × List MemPlace} (h : DataW.trod enc Tryz.prog w 0 (fun _ => true) true fuel t [v] = some x) (hw : ∀ n ∈ x.1.weights Tryz.prog t, n <= reachBytes) : ∃ L, Sl K w v L /\ L.length * bytes <= reachBytes := by
 obtain ⟨so, n, cap, hcs, hn, hrd, hc, hsl⟩ := open_rows K (fun _ => True) hu hce one h
 have hv : v = .slice so n cap := by simpa using hcs
 subst hv
 have h47 : n * bytes <= reachBytes := by
  rcases hsl with h0 | ⟨es, sp, h1, h2⟩
  ·subst h0; rw [Nat.zero_mul]; exact Nat.zero_le _
  ·have := hw ((es.length + sp.length) * bytes) (by rw [h1]; simp [DataW.weights, hu, hb])
   have h3 : n * bytes <= (es.length + sp.length) * bytes := Nat.mul_le_mul (by omega) (Nat.le_refl _)
   omega
 have h48 : n <= 281474976710656 := by
  have hr := reachBytes_lt
  have h3 : n * 1 <= n * bytes := Nat.mul_le_mul (Nat.le_refl _) hb0
  omega
 obtain ⟨L, hL, _⟩ := hrd h48
 have hl : L.length = n := hL.1
 subst hl
 exact ⟨L, ⟨so, cap, rfl, hn, hc, hL⟩, h47⟩
theorem open_wdB {r : Go.Reach} {b0 : Nat} {v : Value} {d : DataW H} {p : List MemPlace} (hv : Value.okWide Tryz.prog w r b0 33 v) (h : DataW.Trod enc Tryz.prog w 0 (fun _ => true) true 33 v d p) (hw : ∀ n ∈ d.weights Tryz.prog 33, n <= reachBytes) :
  ∃ W : Wd, RdW w v W /\ (W.ms.length + 1) * 104 <= 140737488355328 /\ (W.cs.length + 1) * 32 <= 140737488355328 /\ (W.hs.length + 1) * 64 <= 140737488355328 /\ (W.ks.length + 1) * 24 <= 140737488355328 := by
 obtain ⟨cs, rfl, hsz⟩ := okWide_struct Tryz.underlying33 hv
 obtain ⟨l⟩ := cs
 obtain ⟨x0, x1, x2, x3, x4, x5, rfl⟩ := listG6 (l := l) (by simpa using hsz.trans cellsW_wd)
 obtain ⟨fuel, hf⟩ := h
 obtain ⟨xs, n, _, hx, _, hlen, hfl⟩ := DataW.trod_struct Tryz.underlying33 hf
 obtain ⟨z0, z1, z2, z3, z4, z5, rfl⟩ := listG6 (l := xs) (by simpa using hlen)
 have g0 := hfl 0 _ rfl
 have g1 := hfl 1 _ rfl
 have g2 := hfl 2 _ rfl
 have g3 := hfl 3 _ rfl
 have g4 := hfl 4 _ rfl
 have g5 := hfl 5 _ rfl
 simp [Value.cells, cellsG_int, cellsW_i64, cellsW_lm, cellsW_lc, cellsW_ls, cellsW_lp] at g0 g1 g2 g3 g4 g5
 have hd : d = .agg ([z0, z1, z2, z3, z4, z5].map (·.1)) := by simpa using congrArg (·.1) hx
 have hmem : ∀ n, (n ∈ z1.1.weights Tryz.prog 28 \/ n ∈ z2.1.weights Tryz.prog 29 \/ n ∈ z3.1.weights Tryz.prog 30 \/ n ∈ z4.1.weights Tryz.prog 31) -> n <= reachBytes := fun n hn => hw n (by
  rw [hd]
  simp only [DataW.weights, Tryz.underlying33, List.map_cons, List.map_nil, DataW.weightsEach, List.mem_append]
  rcases hn with hn | hn | hn | hn <;> simp [hn])
 obtain ⟨fr, e0, _, _⟩ := DataW.trod_int Tryz.underlying2 g0
 obtain ⟨nx, e5, _, _⟩ := DataW.trod_int Tryz.underlying3 g5
 obtain ⟨L1, h1, y1⟩ := open_slB KM Tryz.underlying28 cellsG_mv (bytes := 104) (by kernel_rfl) (by omega) one_mv g1 (fun n hn => hmem n (.inl hn))
 obtain ⟨L2, h2, y2⟩ := open_slB KC Tryz.underlying29 cellsW_sc (bytes := 32) (by kernel_rfl) (by omega) one_scQ g2 (fun n hn => hmem n (.inr (.inl hn)))
 obtain ⟨L3, h3, y3⟩ := open_slB KS Tryz.underlying30 cellsG_sh (bytes := 64) (by kernel_rfl) (by omega) one_sh g3 (fun n hn => hmem n (.inr (.inr (.inl hn))))
 obtain ⟨L4, h4, y4⟩ := open_slB KQ Tryz.underlying31 cellsG_pk (bytes := 24) (by kernel_rfl) (by omega) one_pkQ g4 (fun n hn => hmem n (.inr (.inr (.inr hn))))
 simp at e0 e5
 subst e0 e5
 have hrb : reachBytes = 140737488351232 := rfl
 exact ⟨⟨fr, L1, L2, L3, L4, nx⟩, ⟨x1, x2, x3, x4, rfl, h1, h2, h3, h4⟩, by show (L1.length + 1) * 104 <= _; omega, by show (L2.length + 1) * 32 <= _; omega, by show (L3.length + 1) * 64 <= _; omega, by show (L4.length + 1) * 24 <= _; omega⟩
end
end Go.Proofs.YthcjckgmdokmdaaGreatDoor
