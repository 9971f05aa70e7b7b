/- Arguments opened: a datagram, bytes; what a row's list of variables gives. -/
import Derived.Test.YtaaongbdincimaaGreatDoorRows
import Derived.Test.YtaaongbdincimaaGreatDoorGb
import Derived.Test.YtaaongbdincimaaGreatDoorWer
import Derived.Deep.Slices
import Derived.Deep.Fields
import Derived.ProofKit
import Derived.SizedLaws
import Derived.Lib.LaidTab
import Derived.Lib.SmallJoins
import Derived.LaidMore
import Derived.Lay
import Derived.Stop.Joined
import Derived.Stop.LaidErr
import Derived.Stop.LaidTwo
import Derived.KernelRfl
namespace Go.Proofs.YtaaongbdincimaaGreatDoor
open Go.ChangeShapes Go.WideShapes Go.ChangeAt Go.RowKit Go.Deep
open Wp
set_option maxRecDepth 100000
set_option linter.unusedVariables false

theorem c16_int : Tryz.prog.cellsOf 3 = 1 := by kernel_rfl
theorem c16_i64 : Tryz.prog.cellsOf 2 = 1 := by kernel_rfl
theorem c16_u64 : Tryz.prog.cellsOf 22 = 1 := by kernel_rfl
theorem c16_or : Tryz.prog.cellsOf 40 = 4 := by kernel_rfl
theorem c16_cm : Tryz.prog.cellsOf 42 = 7 := by kernel_rfl
theorem c16_dg : Tryz.prog.cellsOf 25 = 8 := by kernel_rfl
theorem c16_cs : Tryz.prog.cellsOf 23 = 1 := by kernel_rfl
theorem b16_cm : Tryz.prog.bytesOf 42 = 56 := by kernel_rfl
theorem c16_byte : Tryz.prog.cellsOf 5 = 1 := by kernel_rfl
theorem b16_byte : Tryz.prog.bytesOf 5 = 1 := by kernel_rfl
theorem wf16_u64 {n : Int} (h : (Lit.int .u64 n).wf = true) : 0 ≤ n ∧ n < 18446744073709551616 := by
  have : 0 ≤ n ∧ n ≤ 18446744073709551615 := by simpa [Lit.wf, IntKind.min, IntKind.max, IntKind.signed, IntKind.bits] using h
  omega
theorem wf16_u8 {n : Int} (h : (Lit.int .u8 n).wf = true) : 0 ≤ n ∧ n ≤ 255 := by simpa [Lit.wf, IntKind.min, IntKind.max, IntKind.signed, IntKind.bits] using h
theorem weights16 {H : Type} {ts : List TypeId} {ds : List (DataW H)} (h : (DataW.weightsEach Tryz.prog ts ds).all (· ≤ reachBytes) = true) {j : Nat} {t : TypeId} {d : DataW H} (ht : ts[j]? = some t) (hd : ds[j]? = some d) : ∀ n ∈ d.weights Tryz.prog t, n ≤ reachBytes := by
  intro n hn
  have h1 := List.all_eq_true.1 h _ (DataW.weights_mem_each ht hd _ hn)
  simpa using h1
/-- What bytes that came in read as: so many elements, and so many places behind them. -/
def Lies16 {H : Type} (d : DataW H) (ao : Option Addr) (n cap : Nat) : Prop := (d = .nil ∧ ao = none ∧ n = 0 ∧ cap = 0) ∨ ∃ es sp, d = .slice es sp ∧ es.length = n ∧ es.length + sp.length = cap ∧ ∃ a, ao = some a

section
variable {H : Type} {enc : TypeId × Value → H} {w : World}
theorem one_or16 {fuel : Nat} {cs : List Value} {x : DataW H × List MemPlace} (hl : cs.length = 4) (h : DataW.trod enc Tryz.prog w 0 (fun _ => true) true fuel 40 cs = some x) : ∃ a b c d : Int, cs = [.int .i64 a, .int .i64 b, .int .i64 c, .int .i64 d] := by
  obtain ⟨x0, x1, x2, x3, rfl⟩ := listG4 (l := cs) hl
  obtain ⟨xs, n, _, _, _, hlen, hfl⟩ := DataW.trod_struct Tryz.underlying40 h
  obtain ⟨z0, z1, z2, z3, rfl⟩ := listG4 (l := xs) (by simpa using hlen)
  have g0 := hfl 0 _ rfl
  have g1 := hfl 1 _ rfl
  have g2 := hfl 2 _ rfl
  have g3 := hfl 3 _ rfl
  simp [c16_int] at g0 g1 g2 g3
  obtain ⟨a, e0, _, _⟩ := DataW.trod_int Tryz.underlying3 g0
  obtain ⟨b, e1, _, _⟩ := DataW.trod_int Tryz.underlying3 g1
  obtain ⟨c, e2, _, _⟩ := DataW.trod_int Tryz.underlying3 g2
  obtain ⟨d, e3, _, _⟩ := DataW.trod_int Tryz.underlying3 g3
  simp at e0 e1 e2 e3
  subst e0 e1 e2 e3
  exact ⟨a, b, c, d, rfl⟩
theorem one_cm16 {fuel : Nat} {cs : List Value} {x : DataW H × List MemPlace} (hl : cs.length = 7) (h : DataW.trod enc Tryz.prog w 0 (fun _ => true) true fuel 42 cs = some x) : ∃ y : Cc, cs = KCc.f y ∧ True := by
  obtain ⟨x0, x1, x2, x3, x4, x5, x6, rfl⟩ : ∃ a b c d e f g, cs = [a, b, c, d, e, f, g] := by
    match cs, hl with
    | [a, b, c, d, e, f, g], _ => exact ⟨a, b, c, d, e, f, g, rfl⟩
  obtain ⟨xs, n, _, _, _, hlen, hfl⟩ := DataW.trod_struct Tryz.underlying42 h
  obtain ⟨z0, z1, z2, z3, rfl⟩ := listG4 (l := xs) (by simpa using hlen)
  have g0 := hfl 0 _ rfl
  have g1 := hfl 1 _ rfl
  have g2 := hfl 2 _ rfl
  have g3 := hfl 3 _ rfl
  simp [c16_int, c16_i64, c16_or] at g0 g1 g2 g3
  obtain ⟨a, e0, _, _⟩ := DataW.trod_int Tryz.underlying2 g0
  obtain ⟨b, e1, _, _⟩ := DataW.trod_int Tryz.underlying3 g1
  obtain ⟨c, e2, _, _⟩ := DataW.trod_int Tryz.underlying3 g2
  obtain ⟨v1, v2, v3, v4, e3⟩ := one_or16 rfl g3
  simp at e0 e1 e2 e3
  obtain ⟨rfl, rfl, rfl, rfl⟩ := e3
  subst e0 e1 e2
  exact ⟨⟨a, b, c, v1, v2, v3, v4⟩, rfl, trivial⟩
/-- Bytes that came in. -/
theorem open_bytes16 {fuel : Nat} {cs : List Value} {x : DataW H × List MemPlace} (h : DataW.trod enc Tryz.prog w 0 (fun _ => true) true fuel 31 cs = some x) :
    ∃ ao n cap bs, cs = [.slice ao n cap] ∧ Rd w ao n cap bs ∧ Lies16 x.1 ao n cap := by
  rcases open_ints Tryz.underlying31 Tryz.underlying5 c16_byte h with ⟨rfl, rfl⟩ | ⟨a, len, cap, zs, rfl, _, hl, hm, hz, rfl, hcell, hwz⟩
  · exact ⟨none, 0, 0, [], rfl, Rd.empty w, .inl ⟨rfl, rfl, rfl, rfl⟩⟩
  · simp only [if_true] at hz
    have htl : ((zs.take len).map fun z => UInt8.ofNat z.toNat).length = len := by simp; omega
    refine ⟨some a, len, cap, (zs.take len).map fun z => UInt8.ofNat z.toNat, rfl, ⟨htl, hl, hm, ?_, fun h => (by cases h), ?_⟩, .inr ⟨_, _, rfl, ?_, ?_, a, rfl⟩⟩
    · intro a' ha hp
      cases ha
      have := hcell 0 (by omega)
      simpa [Addr.add] using World.cell?_spot this
    · intro a' ha j hj
      cases ha
      rw [htl] at hj
      have h1 := hcell j (by omega)
      have hsp : a.spot = none := by
        have := hcell 0 (by omega)
        simpa [Addr.add] using World.cell?_spot this
      obtain ⟨b, o, s⟩ := a
      simp at hsp
      subst hsp
      rw [add_plain] at h1
      rw [h1]
      have hjz : j < zs.length := by omega
      have hb := wf16_u8 (hwz (zs.getD j 0) (by simp [List.getD, hjz]))
      have e1 : ((zs.take len).map fun z => UInt8.ofNat z.toNat)[j]'(by rw [htl]; exact hj) = UInt8.ofNat (zs.getD j 0).toNat := by simp [List.getD, hjz]
      rw [e1, Cp.ofNat_toNat (by omega)]
      congr 2
      omega
    · simp [lits]; omega
    · simp [lits]; omega

/-- A datagram that came in. -/
theorem open_dg {r : Go.Reach} {b0 : Nat} {v : Value} {d : DataW H} {p : List MemPlace} (hv : Value.okWide Tryz.prog w r b0 25 v) (h : DataW.Trod enc Tryz.prog w 0 (fun _ => true) true 25 v d p) (hw : ∀ n ∈ d.weights Tryz.prog 25, n ≤ reachBytes) :
    ∃ (D : Dg) (co : Option Addr) (cn cp : Nat), v = dgv D co cn cp ∧ RdG KCc w co cn D.cs ∧ (0 ≤ D.ss ∧ D.ss < 18446744073709551616) ∧ cn ≤ cp ∧ (co = none → cp = 0) ∧ 56 * cn ≤ 140737488351232 := by
  obtain ⟨cs, rfl, hsz⟩ := okWide_struct Tryz.underlying25 hv
  obtain ⟨l⟩ := cs
  obtain ⟨x0, x1, x2, x3, x4, x5, x6, x7, rfl⟩ := listG8 (l := l) (by simpa using hsz.trans c16_dg)
  obtain ⟨fuel, hf⟩ := h
  obtain ⟨xs, n, _, hx, _, hlen, hfl⟩ := DataW.trod_struct Tryz.underlying25 hf
  obtain ⟨z0, z1, z2, z3, z4, z5, z6, z7, rfl⟩ := listG8 (l := xs) (by simpa using hlen)
  have g0 := hfl 0 _ rfl
  have g1 := hfl 1 _ rfl
  have g2 := hfl 2 _ rfl
  have g3 := hfl 3 _ rfl
  have g4 := hfl 4 _ rfl
  have g5 := hfl 5 _ rfl
  have g6 := hfl 6 _ rfl
  have g7 := hfl 7 _ rfl
  simp [Value.cells, c16_int, c16_u64, c16_i64, c16_cs] at g0 g1 g2 g3 g4 g5 g6 g7
  obtain ⟨v0, e0, _, _⟩ := DataW.trod_int Tryz.underlying3 g0
  obtain ⟨v1, e1, _, w1⟩ := DataW.trod_int Tryz.underlying22 g1
  obtain ⟨v2, e2, _, _⟩ := DataW.trod_int Tryz.underlying3 g2
  obtain ⟨v3, e3, _, _⟩ := DataW.trod_int Tryz.underlying3 g3
  obtain ⟨v4, e4, _, _⟩ := DataW.trod_int Tryz.underlying2 g4
  obtain ⟨v5, e5, _, _⟩ := DataW.trod_int Tryz.underlying3 g5
  obtain ⟨v7, e7, _, _⟩ := DataW.trod_int Tryz.underlying3 g7
  obtain ⟨co, cn, cp, e6, hn, hrd, hc, hsl⟩ := open_rows KCc (fun _ => True) Tryz.underlying23 c16_cm one_cm16 g6
  simp at e0 e1 e2 e3 e4 e5 e6 e7
  subst e0 e1 e2 e3 e4 e5 e6 e7
  have hd : d = .agg ([z0, z1, z2, z3, z4, z5, z6, z7].map (·.1)) := by simpa using congrArg (·.1) hx
  have h48 : 56 * cn ≤ 140737488351232 := by
    rcases hsl with h0 | ⟨es, sp, h1, h2⟩
    · omega
    · have := hw ((es.length + sp.length) * 56) (by
        rw [hd]
        simp only [DataW.weights, Tryz.underlying25, List.map_cons, List.map_nil, DataW.weightsEach, h1, Tryz.underlying23, b16_cm]
        simp)
      have hr : reachBytes = 140737488351232 := rfl
      omega
  obtain ⟨L, hL, _⟩ := hrd (by omega)
  exact ⟨⟨v0, v1, v2, v3, v4, v5, L, v7⟩, co, cn, cp, rfl, hL, wf16_u64 w1, hn, hc, h48⟩
end
theorem gFac16 : Tryz.prog.globalNamed "echelon/digest.factors" = some 6 := by kernel_rfl
theorem gE0 : Tryz.prog.globalNamed "echelon/wire.errForm" = some 0 := by kernel_rfl
theorem gE1 : Tryz.prog.globalNamed "echelon/wire.errSum" = some 1 := by kernel_rfl
theorem gE2 : Tryz.prog.globalNamed "echelon/wire.errData" = some 2 := by kernel_rfl
theorem gT0 : (Tryz.prog.globals[0]?).map (·.type) = some 57 := by kernel_rfl
theorem gT1 : (Tryz.prog.globals[1]?).map (·.type) = some 57 := by kernel_rfl
theorem gT2 : (Tryz.prog.globals[2]?).map (·.type) = some 57 := by kernel_rfl
theorem cES16 : Tryz.prog.cellsOf 185 = 1 := by kernel_rfl
theorem cSt16 : Tryz.prog.cellsOf 9 = 1 := by kernel_rfl
theorem star16 : "*" ++ "errors.errorString" = "*errors.errorString" := by decide
theorem rowES16 (u : TypeId) (h : Tryz.prog.typeName? 3 u = some "*errors.errorString") : u = 159 :=
  typeName_ptr_named (nm := "errors.errorString") (by rw [star16]; kernel_rfl) (by kernel_rfl) (by decide) u (by rw [star16]; exact h)
def facs16 : List Int := [13787848793156543929, 10723151780598845931, 1099511628211, 11400714819323198485]
theorem fac16 {W : World} {r : List (String × DataW Unit)} (hL : laidMet Tryz.prog (("echelon/digest.factors", Rows.laid_echelon_digest_factors) :: r) W) : FTab W := by
  have h5 : laidMet Tryz.prog (("echelon/digest.factors", Lib.tabData .u64 facs16) :: r) W := hL
  have t5 := Lib.tabIs_of_head (t := 120) (e := 22) (n := 4) gFac16 (by kernel_rfl) Tryz.underlying120 Tryz.underlying22 (by kernel_rfl) (by kernel_rfl) h5
  exact ⟨⟨t5.cell gFac16 0 (by decide), t5.cell gFac16 1 (by decide), t5.cell gFac16 3 (by decide)⟩, t5.cell gFac16 2 (by decide)⟩
theorem err16 {W : World} {r : List (String × DataW Unit)} (hL : laidMet Tryz.prog (("echelon/wire.errForm", Rows.laid_echelon_wire_errForm) :: ("echelon/wire.errSum", Rows.laid_echelon_wire_errSum) :: ("echelon/wire.errData", Rows.laid_echelon_wire_errData) :: r) W) : ∃ a0 a1 a2, ETab W W.heap.size a0 a1 a2 := by
  obtain ⟨a0, a1, s0, s1, c0, c1, t0, t1, hv0, hv1, hc0, hs0, hz0, hc1, hs1, hz1, hne, hb0, hb1⟩ := laid_sentinels2 (text0 := [110, 111, 116, 32, 119, 114, 105, 116, 116, 101, 110, 32, 97, 115, 32, 97, 32, 100, 97, 116, 97, 103, 114, 97, 109, 32, 105, 115]) (text1 := [97, 110, 111, 116, 104, 101, 114, 32, 115, 117, 109]) hL gE0 gT0 gE1 gT1 Tryz.underlying57 rowES16 Tryz.underlying159 Tryz.underlying185 rfl rfl Tryz.underlying9 cES16 cSt16
  obtain ⟨a1', a2, s1', s2, c1', c2, t1', t2, hv1', hv2, hc1', hs1', hz1', hc2, hs2, hz2, hne2, hb1', hb2⟩ := laid_sentinels2 (text0 := [97, 110, 111, 116, 104, 101, 114, 32, 115, 117, 109]) (text1 := [97, 32, 100, 97, 116, 97, 103, 114, 97, 109, 32, 116, 104, 97, 116, 32, 109, 97, 121, 32, 110, 111, 116, 32, 98, 101]) (laidMet.tail hL) gE1 gT1 gE2 gT2 Tryz.underlying57 rowES16 Tryz.underlying159 Tryz.underlying185 rfl rfl Tryz.underlying9 cES16 cSt16
  obtain rfl : a1' = a1 := by
    rw [hv1] at hv1'
    simpa using hv1'.symm
  have n02 : a0 ≠ a2 := by
    rintro rfl
    rw [hc0] at hc2
    have : s0 = s2 := by simpa using hc2
    rw [this, hs2] at hs0
    simp at hs0
  have k0 : W.cell? ⟨0, 0, none⟩ = some (efv a0) := by simpa using World.var?_cell gE0 hv0 0
  have k1 : W.cell? ⟨1, 0, none⟩ = some (efv a1') := by simpa using World.var?_cell gE1 hv1 0
  have k2 : W.cell? ⟨2, 0, none⟩ = some (efv a2) := by simpa using World.var?_cell gE2 hv2 0
  exact ⟨a0, a1', a2, k0, k1, k2, ⟨_, _, hb0⟩, ⟨_, _, hb1⟩, ⟨_, _, hb2⟩, hne, n02, hne2, ⟨block_lt hb0, block_lt hb1, block_lt hb2⟩, World.block_lt_of_cell? W _ k0, World.block_lt_of_cell? W _ k1, World.block_lt_of_cell? W _ k2⟩
end Go.Proofs.YtaaongbdincimaaGreatDoor
