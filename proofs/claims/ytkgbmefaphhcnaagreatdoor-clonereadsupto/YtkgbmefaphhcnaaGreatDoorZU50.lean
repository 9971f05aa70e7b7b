/- Parts of the proof, laid end to end. -/
import Derived.Test.YtkgbmefaphhcnaaGreatDoorZU49
import Derived.Test.YtkgbmefaphhcnaaGreatDoorZU00
import Derived.Deep.Slices
import Derived.Deep.Fields
import Derived.Lib.SmallJoins
import Derived.Test.YtkgbmefaphhcnaaGreatDoorRows
namespace Go.Proofs.YtkgbmefaphhcnaaGreatDoor
open Go.ChangeShapes Go.WideShapes Go.ChangeAt Go.RowKit Go.Deep
set_option maxRecDepth 100000
set_option linter.unusedVariables false
theorem c14_byte : Tryz.prog.cellsOf 5 = 1 := by kernel_rfl
theorem wf14_u8 {n : Int} (h : (Lit.int .u8 n).wf = true) : 0 <= n /\ n <= 255 := by simpa [Lit.wf, IntKind.min, IntKind.max, IntKind.signed, IntKind.bits] using h
def Lies14 {H : Type} (d : DataW H) (ao : Option Addr) (n cap : Nat) : Prop := (d = .nil /\ ao = none /\ n = 0 /\ cap = 0) \/ ∃ es sp, d = .slice es sp /\ es.length = n /\ es.length + sp.length = cap /\ ∃ a, ao = some a
section
variable {H : Type} {enc : TypeId × Value -> H} {w : World}
theorem open_bytes14 {fuel : Nat} {cs : List Value} {x : DataW H × List MemPlace} (h : DataW.trod enc Tryz.prog w 0 (fun _ => true) true fuel 38 cs = some x) :
  ∃ ao n cap bs, cs = [.slice ao n cap] /\ Rd w ao n cap bs /\ Lies14 x.1 ao n cap := by
 rcases open_ints Tryz.underlying38 Tryz.underlying5 c14_byte h with ⟨rfl, rfl⟩ | ⟨a, len, cap, zs, rfl, _, hl, hm, hz, rfl, hcell, hwz⟩
 ·exact ⟨none, 0, 0, [], rfl, Rd.empty w, .inl ⟨rfl, rfl, rfl, rfl⟩⟩
 ·simp only [if_true] at hz
  have htl : ((zs.take len).map fun z => UInt8.ofNat z.toNat).length = len := by simp; omega
  refine ⟨some a, len, cap, (zs.take len).map fun z => UInt8.ofNat z.toNat, rfl, ⟨htl, hl, hm, ?_, fun h => (by cases h), ?_⟩, .inr ⟨_, _, rfl, ?_, ?_, a, rfl⟩⟩
  ·intro a' ha hp
   cases ha
   have := hcell 0 (by omega)
   simpa [Addr.add] using World.cell?_spot this
  ·intro a' ha j hj
   cases ha
   rw [htl] at hj
   have h1 := hcell j (by omega)
   have hsp : a.spot = none := by
    have := hcell 0 (by omega)
    simpa [Addr.add] using World.cell?_spot this
   obtain ⟨b, o, s⟩ := a
   simp at hsp
   subst hsp
   rw [add_plain] at h1
   rw [h1]
   have hjz : j < zs.length := by omega
   have hb := wf14_u8 (hwz (zs.getD j 0) (by simp [List.getD, hjz]))
   have e1 : ((zs.take len).map fun z => UInt8.ofNat z.toNat)[j]'(by rw [htl]; exact hj) = UInt8.ofNat (zs.getD j 0).toNat := by simp [List.getD, hjz]
   rw [e1, Cp.ofNat_toNat (by omega)]
   congr 2
   omega
  ·simp [lits]; omega
  ·simp [lits]; omega
end
end Go.Proofs.YtkgbmefaphhcnaaGreatDoor
namespace Go.Proofs.YtkgbmefaphhcnaaGreatDoor
open Go.ChangeShapes Go.WideShapes Go.ChangeAt Go.RowKit Go.Deep
open Pu Gp Ap Vp Np Za Ka Ja Ea Ha Hg Hi
set_option maxRecDepth 100000
set_option linter.unusedVariables false
theorem bulk_pos14 {H : Type} (d : DataW H) : 1 <= Rows.uptoBulk d := by
 cases d with
 | lit l => cases l <;> simp [Rows.uptoBulk]
 | _ => simp [Rows.uptoBulk]
theorem bulk_len14 {H : Type} : ∀ l : List (DataW H), l.length <= Rows.uptoBulkAll l
 | [] => by simp [Rows.uptoBulkAll]
 | d :: l => by
  have h1 := bulk_len14 l
  have h2 := bulk_pos14 d
  simp only [Rows.uptoBulkAll, List.length_cons]
  omega
theorem bytes_bulk14 {H : Type} {d : DataW H} {ao : Option Addr} {n cap : Nat} (h : Lies14 d ao n cap) : n <= Rows.uptoBulk d := by
 rcases h with ⟨_, _, h, _⟩ | ⟨es, sp, rfl, h1, _, _⟩
 ·omega
 ·have := bulk_len14 es
  simp only [Rows.uptoBulk]
  omega
section
variable {H : Type} {enc : TypeId × Value -> H} {w : World}
theorem open_cfgU {r : Go.Reach} {b0 : Nat} {v : Value} {d : DataW H} {p : List MemPlace} (hv : Value.okWide Tryz.prog w r b0 37 v) (h : DataW.Trod enc Tryz.prog w 0 (fun _ => true) true 37 v d p) (hw : Rows.uptoBulk d <= 1048576) :
  ∃ (p q C R : Int) (s : ByteArray) (lo : Option Addr) (n cap : Nat) (l : List Int), v = .agg #[.int .i64 p, .int .u64 q, .int .i64 C, .int .i64 R, .string s, .slice lo n cap] /\ RdI w lo n cap l /\ s.size <= 281474976710656 /\ C <= 9223372036854775807 /\ (0 <= q /\ q < 18446744073709551616) := by
 obtain ⟨cs, rfl, hsz⟩ := okWide_struct Tryz.underlying37 hv
 obtain ⟨l⟩ := cs
 obtain ⟨x0, x1, x2, x3, x4, x5, rfl⟩ := listG6 (l := l) (by simpa using hsz.trans cellsW_cfZ)
 obtain ⟨fuel, hf⟩ := h
 obtain ⟨xs, n, _, hx, _, hlen, hfl⟩ := DataW.trod_struct Tryz.underlying37 hf
 obtain ⟨z0, z1, z2, z3, rfl⟩ := listG4 (l := xs) (by simpa using hlen)
 have g0 := hfl 0 _ rfl
 have g1 := hfl 1 _ rfl
 have g2 := hfl 2 _ rfl
 have g3 := hfl 3 _ rfl
 simp [Value.cells, cellsG_intZ, cellsW_u64Z, cellsW_arZ, cellsW_liZ] at g0 g1 g2 g3
 obtain ⟨a, e0, _, w0⟩ := DataW.trod_int Tryz.underlying3 g0
 obtain ⟨b, e1, _, w1⟩ := DataW.trod_int Tryz.underlying32 g1
 obtain ⟨ys, n2, _, hy, _, hlen2, hfl2⟩ := DataW.trod_struct Tryz.underlying34 g2
 obtain ⟨y0, y1, y2, rfl⟩ := listG3 (l := ys) (by simpa using hlen2)
 have k0 := hfl2 0 _ rfl
 have k1 := hfl2 1 _ rfl
 have k2 := hfl2 2 _ rfl
 simp [cellsG_intZ, cellsW_strZ] at k0 k1 k2
 obtain ⟨C, f0, _, u0⟩ := DataW.trod_int Tryz.underlying3 k0
 obtain ⟨R, f1, _, _⟩ := DataW.trod_int Tryz.underlying3 k1
 obtain ⟨s, f2, m2, _⟩ := DataW.trod_string Tryz.underlying9 k2
 obtain ⟨lo, ln, lc, bs, e3, hr⟩ := open_lagsZ g3
 simp at e0 e1 e3 f0 f1 f2
 subst e0 e1 e3 f0 f1 f2
 refine ⟨a, b, C, R, s, lo, ln, lc, bs, rfl, hr, ?_, (wfG_i64 u0).2, wfZ_u64 w1⟩
 have hd : d = .agg ([z0, z1, z2, z3].map (·.1)) := by simpa using congrArg (·.1) hx
 have hd2 : z2.1 = .agg ([y0, y1, y2].map (·.1)) := by simpa using congrArg (·.1) hy
 rw [hd] at hw
 simp only [List.map_cons, List.map_nil, Rows.uptoBulk, Rows.uptoBulkAll, hd2, m2] at hw
 rw [Array.length_toList] at hw
 show s.data.size <= _
 omega
end
end Go.Proofs.YtkgbmefaphhcnaaGreatDoor
