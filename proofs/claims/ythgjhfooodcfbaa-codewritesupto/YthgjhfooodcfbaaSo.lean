/- Arguments opened: bytes, a call, a script. -/
import Derived.Test.YthgjhfooodcfbaaRows
import Derived.Test.YthgjhfooodcfbaaSp
import Derived.Deep.Slices
import Derived.ProofKit
namespace Go.Proofs.Ythgjhfooodcfbaa
open Go.ChangeShapes Go.WideShapes Go.ChangeAt Go.RowKit Go.Deep

theorem wf_i64 {n : Int} (h : (Lit.int .i64 n).wf = true) : -9223372036854775808 ≤ n ∧ n ≤ 9223372036854775807 := by simpa [Lit.wf, IntKind.min, IntKind.max, IntKind.signed, IntKind.bits] using h
theorem wf_u64 {n : Int} (h : (Lit.int .u64 n).wf = true) : 0 ≤ n ∧ n ≤ 18446744073709551615 := by simpa [Lit.wf, IntKind.min, IntKind.max, IntKind.signed, IntKind.bits] using h
theorem wf_u8 {n : Int} (h : (Lit.int .u8 n).wf = true) : 0 ≤ n ∧ n ≤ 255 := by simpa [Lit.wf, IntKind.min, IntKind.max, IntKind.signed, IntKind.bits] using h

theorem cells_byte : Try.prog.cellsOf 5 = 1 := by kernel_rfl
theorem cells_op : Try.prog.cellsOf 28 = 6 := by kernel_rfl

/-- What bytes that came in read as: so many elements, and so many places behind them. -/
def Lies {H : Type} (d : DataW H) (ao : Option Addr) (n cap : Nat) : Prop := (d = .nil ∧ ao = none ∧ n = 0 ∧ cap = 0) ∨ ∃ es sp, d = .slice es sp ∧ es.length = n ∧ es.length + sp.length = cap ∧ ∃ a, ao = some a

section
variable {H : Type} {enc : TypeId × Value → H} {w : World}
/-- Bytes that came in. -/
theorem open_bytes {fuel : Nat} {cs : List Value} {x : DataW H × List MemPlace} (h : DataW.trod enc Try.prog w 0 (fun _ => true) true fuel 26 cs = some x) :
    ∃ ao n cap bs, cs = [.slice ao n cap] ∧ Rd w ao n cap bs ∧ Lies x.1 ao n cap := by
  rcases open_ints Try.underlying26 Try.underlying5 cells_byte h with ⟨rfl, rfl⟩ | ⟨a, len, cap, zs, rfl, _, hl, hm, hz, rfl, hcell, hwz⟩
  · exact ⟨none, 0, 0, [], rfl, Rd.empty w, .inl ⟨rfl, rfl, rfl, rfl⟩⟩
  · simp only [if_true] at hz
    have htl : ((zs.take len).map fun z => UInt8.ofNat z.toNat).length = len := by simp; omega
    refine ⟨some a, len, cap, (zs.take len).map fun z => UInt8.ofNat z.toNat, rfl, ⟨htl, hl, hm, ?_, fun h => (by cases h), ?_⟩, .inr ⟨_, _, rfl, ?_, ?_, a, rfl⟩⟩
    · intro a' ha hp
      cases ha
      have := hcell 0 (by omega)
      simpa [Addr.add] using World.cell?_spot this
    · intro a' ha j hj
      cases ha
      rw [htl] at hj
      have h1 := hcell j (by omega)
      have hsp : a.spot = none := by
        have := hcell 0 (by omega)
        simpa [Addr.add] using World.cell?_spot this
      obtain ⟨b, o, s⟩ := a
      simp at hsp
      subst hsp
      rw [add_plain] at h1
      rw [h1]
      have hjz : j < zs.length := by omega
      have hb := wf_u8 (hwz (zs.getD j 0) (by simp [List.getD, hjz]))
      have e1 : ((zs.take len).map fun z => UInt8.ofNat z.toNat)[j]'(by rw [htl]; exact hj) = UInt8.ofNat (zs.getD j 0).toNat := by simp [List.getD, hjz]
      rw [e1, Cp.ofNat_toNat (by omega)]
      congr 2
      omega
    · simp [lits]; omega
    · simp [lits]; omega

theorem take1 {cs : List Value} {i : Nat} (h : i < cs.length) : (cs.drop i).take 1 = [cs[i]] := by
  rw [List.drop_eq_getElem_cons h]; rfl

/-- A call of a script. -/
theorem open_op {fuel : Nat} {cs : List Value} {x : DataW H × List MemPlace} (h : DataW.trod enc Try.prog w 0 (fun _ => true) true fuel 28 cs = some x) :
    ∃ o : Op, cs = o.val.toList ∧ o.ok w ∧ ∃ d0 d1 d2 d3 d4 d5, x.1 = .agg [d0, d1, d2, d3, d4, d5] ∧ Lies d4 o.ao o.len o.cap := by
  obtain ⟨xs, n, _, rfl, hcl, hxl, hf⟩ := DataW.trod_struct Try.underlying28 h
  rw [cells_op] at hcl
  have hx6 : xs.length = 6 := hxl
  obtain ⟨c0, c1, c2, c3, c4, c5, rfl⟩ : ∃ c0 c1 c2 c3 c4 c5, cs = [c0, c1, c2, c3, c4, c5] := by
    match cs, hcl with
    | [c0, c1, c2, c3, c4, c5], _ => exact ⟨c0, c1, c2, c3, c4, c5, rfl⟩
  obtain ⟨y0, y1, y2, y3, y4, y5, rfl⟩ : ∃ c0 c1 c2 c3 c4 c5, xs = [c0, c1, c2, c3, c4, c5] := by
    match xs, hx6 with
    | [c0, c1, c2, c3, c4, c5], _ => exact ⟨c0, c1, c2, c3, c4, c5, rfl⟩
  have i1 : Try.prog.cellsOf 3 = 1 := by kernel_rfl
  have i2 : Try.prog.cellsOf 25 = 1 := by kernel_rfl
  have i3 : Try.prog.cellsOf 2 = 1 := by kernel_rfl
  have i4 : Try.prog.cellsOf 26 = 1 := by kernel_rfl
  have g0 : DataW.trod enc Try.prog w 0 (fun _ => true) true n 3 (([c0, c1, c2, c3, c4, c5].drop 0).take (Try.prog.cellsOf 3)) = some y0 := hf 0 _ rfl
  rw [i1] at g0
  have g1 : DataW.trod enc Try.prog w 0 (fun _ => true) true n 3 (([c0, c1, c2, c3, c4, c5].drop 1).take (Try.prog.cellsOf 3)) = some y1 := hf 1 _ rfl
  rw [i1] at g1
  have g2 : DataW.trod enc Try.prog w 0 (fun _ => true) true n 25 (([c0, c1, c2, c3, c4, c5].drop 2).take (Try.prog.cellsOf 25)) = some y2 := hf 2 _ rfl
  rw [i2] at g2
  have g3 : DataW.trod enc Try.prog w 0 (fun _ => true) true n 2 (([c0, c1, c2, c3, c4, c5].drop 3).take (Try.prog.cellsOf 2)) = some y3 := hf 3 _ rfl
  rw [i3] at g3
  have g4 : DataW.trod enc Try.prog w 0 (fun _ => true) true n 26 (([c0, c1, c2, c3, c4, c5].drop 4).take (Try.prog.cellsOf 26)) = some y4 := hf 4 _ rfl
  rw [i4] at g4
  have g5 : DataW.trod enc Try.prog w 0 (fun _ => true) true n 3 (([c0, c1, c2, c3, c4, c5].drop 5).take (Try.prog.cellsOf 3)) = some y5 := hf 5 _ rfl
  rw [i1] at g5
  obtain ⟨k0, e0, _, w0⟩ := DataW.trod_int Try.underlying3 g0
  obtain ⟨k1, e1, _, w1⟩ := DataW.trod_int Try.underlying3 g1
  obtain ⟨k2, e2, _, w2⟩ := DataW.trod_int Try.underlying25 g2
  obtain ⟨k3, e3, _, w3⟩ := DataW.trod_int Try.underlying2 g3
  obtain ⟨k5, e5, _, w5⟩ := DataW.trod_int Try.underlying3 g5
  obtain ⟨ao, len, cap, bs, e4, hrd, hlies⟩ := open_bytes g4
  simp at e0 e1 e2 e3 e4 e5
  subst e0 e1 e2 e3 e4 e5
  have b0 := wf_i64 w0
  have b1 := wf_i64 w1
  have b2 := wf_u64 w2
  have b3 := wf_i64 w3
  have b5 := wf_i64 w5
  obtain ⟨m, rfl⟩ := Int.eq_ofNat_of_zero_le b2.1
  exact ⟨⟨k0, k1, m, k3, ao, len, cap, bs, k5⟩, rfl, ⟨b0.1, b0.2, b1.1, b1.2, by show m < _; omega, b3.1, b3.2, b5.1, b5.2, hrd⟩, _, _, _, _, _, _, rfl, hlies⟩

/-- What a call that came in reads as. -/
def OpLies (d : DataW H) (o : Op) : Prop := ∃ d0 d1 d2 d3 d4 d5, d = .agg [d0, d1, d2, d3, d4, d5] ∧ Lies d4 o.ao o.len o.cap
/-- What a script that came in reads as. -/
def ScriptLies (d : DataW H) (ops : List Op) (cap : Nat) : Prop := (d = .nil ∧ ops = []) ∨ ∃ (D : Nat → DataW H) (sp : List (DataW H)), d = .slice ((List.range ops.length).map D) sp ∧ ops.length + sp.length = cap ∧ ∀ i (h : i < ops.length), OpLies (D i) ops[i]

/-- A script that came in. -/
theorem open_script {fuel : Nat} {cs : List Value} {x : DataW H × List MemPlace} (h : DataW.trod enc Try.prog w 0 (fun _ => true) true fuel 22 cs = some x) :
    ∃ so cap ops, cs = [.slice so ops.length cap] ∧ Script w so ops ∧ ops.length ≤ cap ∧ cap ≤ maxLen ∧ ScriptLies x.1 ops cap := by
  rcases open_slice Try.underlying22 h with ⟨rfl, rfl⟩ | ⟨a, len, cap, m, n, D, Pl, rfl, _, hl, hm, hmm, rfl, hx⟩
  · exact ⟨none, 0, [], rfl, ⟨fun _ h => (by cases h), fun _ => rfl, fun _ h => (by cases h), fun _ h => (by cases h)⟩, Nat.zero_le _, Nat.zero_le _, .inl ⟨rfl, rfl⟩⟩
  · simp only [if_true] at hmm
    subst hmm
    rw [cells_op] at hx
    obtain ⟨f, hf⟩ := @choose_lt Op ⟨⟨0, 0, 0, 0, none, 0, 0, [], 0⟩⟩ len (fun i o => (w.cells? 0 (a.add (i * 6)) 6 = some o.val.toList ∧ o.ok w) ∧ OpLies (D i) o) (fun i hi => by
      obtain ⟨cs', h1, h2⟩ := hx i (by omega)
      obtain ⟨o, rfl, hok, hd⟩ := open_op h2
      exact ⟨o, ⟨h1, hok⟩, hd⟩)
    have hlen : ((List.range len).map f).length = len := by simp
    refine ⟨some a, m, (List.range len).map f, by rw [hlen], ⟨?_, fun h => (by cases h), ?_, ?_⟩, by rw [hlen]; exact hl, hm, .inr ⟨D, (List.range (m - len)).map fun j => D (len + j), by rw [hlen], by rw [hlen]; simp; omega, ?_⟩⟩
    · intro a' ha hp
      cases ha
      rw [hlen] at hp
      have h1 := (World.cells?_some (hf 0 hp).1.1).2.2 0 (by omega)
      have h2 : (f 0).val.toList[0]? = some (.int .i64 (f 0).kind) := rfl
      rw [h2] at h1
      simpa [Addr.add] using World.cell?_spot h1
    · intro a' ha i hi g v hv
      cases ha
      rw [hlen] at hi
      have e : ((List.range len).map f)[i]'(by rw [hlen]; exact hi) = f i := by simp
      rw [e] at hv
      have hg : g < 6 := by
        have := (Array.getElem?_eq_some_iff.1 hv).1
        simpa [Op.val] using this
      have h1 := (World.cells?_some (hf i hi).1.1).2.2 g hg
      have h0 := (World.cells?_some (hf 0 (by omega)).1.1).2.2 0 (by omega)
      have h2 : (f 0).val.toList[0]? = some (.int .i64 (f 0).kind) := rfl
      rw [h2] at h0
      have hsp : a.spot = none := by simpa [Addr.add] using World.cell?_spot h0
      obtain ⟨b, o, s⟩ := a
      simp at hsp
      subst hsp
      rw [add_plain, add_plain] at h1
      rw [h1]
      simpa using hv
    · intro o ho
      obtain ⟨i, hi, rfl⟩ := List.mem_map.1 ho
      exact (hf i (by simpa using hi)).1.2
    · intro i hi
      rw [hlen] at hi
      have e : ((List.range len).map f)[i]'(by rw [hlen]; exact hi) = f i := by simp
      rw [e]
      exact (hf i hi).2
end
end Go.Proofs.Ythgjhfooodcfbaa
