/- Arguments opened: bytes, slices of bytes, numbers, the script's calls. -/
import Derived.Test.YtakdfckkljbghaaRows
import Derived.Test.YtakdfckkljbghaaGb
import Derived.Test.YtakdfckkljbghaaBgn
import Derived.Deep.Slices
import Derived.Deep.Fields
import Derived.ProofKit
import Derived.SizedLaws
import Derived.KernelRfl
namespace Go.Proofs.Ytakdfckkljbghaa
open Go.ChangeShapes Go.WideShapes Go.ChangeAt Go.RowKit Go.Deep
set_option maxRecDepth 100000
set_option linter.unusedVariables false

theorem c17_byte : Try.prog.cellsOf 5 = 1 := by kernel_rfl
theorem c17_bytes : Try.prog.cellsOf 33 = 1 := by kernel_rfl
theorem c17_int : Try.prog.cellsOf 3 = 1 := by kernel_rfl
theorem c17_bool : Try.prog.cellsOf 4 = 1 := by kernel_rfl
theorem b17_byte : Try.prog.bytesOf 5 = 1 := by kernel_rfl
theorem b17_bytes : Try.prog.bytesOf 33 = 24 := by kernel_rfl
theorem wf17_u8 {n : Int} (h : (Lit.int .u8 n).wf = true) : 0 ≤ n ∧ n ≤ 255 := by simpa [Lit.wf, IntKind.min, IntKind.max, IntKind.signed, IntKind.bits] using h
/-- how a reading of bytes lies -/
def Lies17 {H : Type} (d : DataW H) (n cap : Nat) : Prop := (d = .nil ∧ n = 0 ∧ cap = 0) ∨ ∃ es sp, d = .slice es sp ∧ es.length = n ∧ es.length + sp.length = cap
section
variable {H : Type} {enc : TypeId × Value → H} {w : World} {α : Type}
theorem lies17_reach {d : DataW H} {n cap : Nat} (h : Lies17 d n cap) (hw : ∀ x ∈ d.weights Try.prog 33, x ≤ reachBytes) : n ≤ 140737488351232 := by
  rcases h with ⟨_, rfl, rfl⟩ | ⟨es, sp, rfl, h1, h2⟩
  · omega
  · have := hw ((es.length + sp.length) * Try.prog.bytesOf 5) (by simp [DataW.weights, Try.underlying33])
    rw [b17_byte] at this
    have hr : reachBytes = 140737488351232 := rfl
    omega
/-- Bytes that came in. -/
theorem open_bytes17 {fuel : Nat} {cs : List Value} {x : DataW H × List MemPlace} (h : DataW.trod enc Try.prog w 0 (fun _ => true) true fuel 33 cs = some x) :
    ∃ ao n cap bs, cs = [.slice ao n cap] ∧ Rd w ao n cap bs ∧ Lies17 x.1 n cap := by
  rcases open_ints Try.underlying33 Try.underlying5 c17_byte h with ⟨rfl, rfl⟩ | ⟨a, len, cap, zs, rfl, _, hl, hm, hz, rfl, hcell, hwz⟩
  · exact ⟨none, 0, 0, [], rfl, Rd.empty w, .inl ⟨rfl, rfl, rfl⟩⟩
  · simp only [if_true] at hz
    have htl : ((zs.take len).map fun z => UInt8.ofNat z.toNat).length = len := by simp; omega
    refine ⟨some a, len, cap, (zs.take len).map fun z => UInt8.ofNat z.toNat, rfl, ⟨htl, hl, hm, ?_, fun h => (by cases h), ?_⟩, .inr ⟨_, _, rfl, ?_, ?_⟩⟩
    · intro a' ha hp
      cases ha
      have := hcell 0 (by omega)
      simpa [Addr.add] using World.cell?_spot this
    · intro a' ha j hj
      cases ha
      rw [htl] at hj
      have h1 := hcell j (by omega)
      have hsp : a.spot = none := by
        have := hcell 0 (by omega)
        simpa [Addr.add] using World.cell?_spot this
      obtain ⟨b, o, s⟩ := a
      simp at hsp
      subst hsp
      rw [add_plain] at h1
      rw [h1]
      have hjz : j < zs.length := by omega
      have hb := wf17_u8 (hwz (zs.getD j 0) (by simp [List.getD, hjz]))
      have e1 : ((zs.take len).map fun z => UInt8.ofNat z.toNat)[j]'(by rw [htl]; exact hj) = UInt8.ofNat (zs.getD j 0).toNat := by simp [List.getD, hjz]
      have e2 : (UInt8.ofNat (zs.getD j 0).toNat).toNat = (zs.getD j 0).toNat := by
        rw [UInt8.toNat_ofNat']
        exact Nat.mod_eq_of_lt (by omega)
      rw [e1, e2]
      congr 2
      omega
    · simp [lits]; omega
    · simp [lits]; omega
/-- A slice that came in, each element beside its reading. -/
theorem open_rowsD (K : Kd α) (Pr : DataW H → α → Prop) {t e : TypeId} (hu : Try.prog.underlying t = some (.slice e)) (hce : Try.prog.cellsOf e = K.k)
    (one : ∀ {fuel : Nat} {cs : List Value} {x : DataW H × List MemPlace}, cs.length = K.k → DataW.trod enc Try.prog w 0 (fun _ => true) true fuel e cs = some x → ∃ y : α, cs = K.f y ∧ Pr x.1 y)
    {fuel : Nat} {cs : List Value} {x : DataW H × List MemPlace} (h : DataW.trod enc Try.prog w 0 (fun _ => true) true fuel t cs = some x) :
    ∃ so n cap, cs = [.slice so n cap] ∧ n ≤ cap ∧ (so = none → cap = 0) ∧ ∃ (D : Nat → DataW H) (sp : List (DataW H)), (n = 0 ∨ x.1 = .slice ((List.range n).map D) sp) ∧ (n ≤ 281474976710656 → ∃ L, RdG K w so n L ∧ ∀ i, i < n → Pr (D i) (L.getD i K.d)) := by
  rcases open_slice hu h with ⟨rfl, rfl⟩ | ⟨a, len, cap, m, n, D, Pl, rfl, _, hl, hm, hmm, rfl, hx⟩
  · exact ⟨none, 0, 0, rfl, Nat.le_refl _, fun _ => rfl, fun _ => .nil, [], .inl rfl, fun _ => ⟨[], RdG.nil _ _, fun i hi => by omega⟩⟩
  · simp only [if_true] at hmm
    subst hmm
    rw [hce] at hx
    refine ⟨some a, len, m, rfl, hl, fun h => (by cases h), D, _, .inr rfl, fun h48 => ?_⟩
    have key : ∀ i, i < len → ∃ y : α, (∀ j, j < K.k → w.cell? ((a.add (i * K.k)).add j) = (K.f y)[j]?) ∧ Pr (D i) y := fun i hi => by
      obtain ⟨cs', h1, h2⟩ := hx i (by omega)
      obtain ⟨_, hlen, hc⟩ := World.cells?_some h1
      obtain ⟨y, rfl, hy⟩ := one hlen h2
      exact ⟨y, hc, hy⟩
    obtain ⟨f, hf⟩ : ∃ f : Nat → α, ∀ i, i < len → (∀ j, j < K.k → w.cell? ((a.add (i * K.k)).add j) = (K.f (f i))[j]?) ∧ Pr (D i) (f i) :=
      ⟨fun i => if h : i < len then Classical.choose (key i h) else K.d, fun i hi => by
        simp only [dif_pos hi]
        exact Classical.choose_spec (key i hi)⟩
    have hpk : ∀ i, i < len → ((List.range len).map f).getD i K.d = f i := fun i hi => by simp [List.getD, hi]
    refine ⟨(List.range len).map f, ⟨by simp, h48, ?_⟩, fun i hi => by rw [hpk i hi]; exact (hf i hi).2⟩
    by_cases h0 : len = 0
    · exact .inl h0
    right
    have hsp : a.spot = none := by
      have h1 := (hf 0 (by omega)).1 0 K.pos
      have h2 : ∃ v, (K.f (f 0))[0]? = some v := ⟨_, List.getElem?_eq_getElem (by rw [K.len]; exact K.pos)⟩
      obtain ⟨v, h2⟩ := h2
      rw [h2] at h1
      simpa [Addr.add] using World.cell?_spot h1
    obtain ⟨B, o, s⟩ := a
    simp at hsp
    subst hsp
    refine ⟨B, o, rfl, fun i hi j u hju => ?_⟩
    rw [hpk i hi] at hju
    have hj : j < K.k := by
      have := (List.getElem?_eq_some_iff.1 hju).1
      rwa [K.len] at this
    have hc := (hf i hi).1 j hj
    rw [add_plain, add_plain, hju] at hc
    exact hc
theorem weights_all_mem {P : Program} {e : TypeId} : ∀ {l : List (DataW H)} {d : DataW H}, d ∈ l → ∀ x ∈ d.weights P e, x ∈ DataW.weightsAll P e l
  | a :: r, d, h, x, hx => by
    simp only [DataW.weightsAll, List.mem_append]
    rcases List.mem_cons.1 h with rfl | h
    · exact .inl hx
    · exact .inr (weights_all_mem h x hx)
/-- what the reach says of a slice and its elements -/
theorem reach_rows {t e : TypeId} (hu : Try.prog.underlying t = some (.slice e)) {n : Nat} {d : DataW H} {D : Nat → DataW H} {sp : List (DataW H)} (hd : n = 0 ∨ d = .slice ((List.range n).map D) sp) (hw : ∀ x ∈ d.weights Try.prog t, x ≤ reachBytes) : n * Try.prog.bytesOf e ≤ reachBytes ∧ ∀ i, i < n → ∀ x ∈ (D i).weights Try.prog e, x ≤ reachBytes := by
  rcases hd with rfl | rfl
  · exact ⟨by omega, fun i hi => by omega⟩
  · have h2 := hw ((((List.range n).map D).length + sp.length) * Try.prog.bytesOf e) (by simp [DataW.weights, hu])
    rw [List.length_map, List.length_range] at h2
    refine ⟨Nat.le_trans (Nat.mul_le_mul_right _ (Nat.le_add_right _ _)) h2, fun i hi x hx => hw x ?_⟩
    simp only [DataW.weights, hu, List.mem_cons, List.mem_append]
    exact .inr (.inl (weights_all_mem (List.mem_map.2 ⟨i, by simpa using hi, rfl⟩) x hx))
theorem one_sl17 {fuel : Nat} {cs : List Value} {x : DataW H × List MemPlace} (hl : cs.length = KSl.k) (h : DataW.trod enc Try.prog w 0 (fun _ => true) true fuel 33 cs = some x) : ∃ y : Sl17, cs = KSl.f y ∧ (Rd w y.ao y.n y.cap y.bs ∧ Lies17 x.1 y.n y.cap) := by
  obtain ⟨ao, n, cap, bs, rfl, hr, hl⟩ := open_bytes17 h
  exact ⟨⟨ao, n, cap, bs⟩, rfl, hr, hl⟩
theorem one_in17 {fuel : Nat} {cs : List Value} {x : DataW H × List MemPlace} (hl : cs.length = KIn.k) (h : DataW.trod enc Try.prog w 0 (fun _ => true) true fuel 3 cs = some x) : ∃ y : Int, cs = KIn.f y ∧ (-9223372036854775808 ≤ y ∧ y ≤ 9223372036854775807) := by
  obtain ⟨a, e0, _, w0⟩ := DataW.trod_int Try.underlying3 h
  exact ⟨a, e0, wfG_i64 w0⟩
/-- slices of bytes that came in -/
theorem open_sls {fuel : Nat} {cs : List Value} {x : DataW H × List MemPlace} (h : DataW.trod enc Try.prog w 0 (fun _ => true) true fuel 39 cs = some x) (hw : ∀ y ∈ x.1.weights Try.prog 39, y ≤ reachBytes) :
    ∃ so n cap, cs = [.slice so n cap] ∧ 24 * n ≤ 140737488351232 ∧ ∃ L, RdG KSl w so n L ∧ ∀ i, i < n → Rd w (slD L i).ao (slD L i).n (slD L i).cap (slD L i).bs ∧ (slD L i).n ≤ 140737488351232 := by
  obtain ⟨so, n, cap, e, _, _, D, sp, hd, hL⟩ := open_rowsD KSl (fun d y => Rd w y.ao y.n y.cap y.bs ∧ Lies17 d y.n y.cap) Try.underlying39 c17_bytes one_sl17 h
  obtain ⟨h1, h2⟩ := reach_rows Try.underlying39 hd hw
  rw [b17_bytes] at h1
  have hr : reachBytes = 140737488351232 := rfl
  obtain ⟨L, hrd, hp⟩ := hL (by omega)
  exact ⟨so, n, cap, e, by omega, L, hrd, fun i hi => ⟨(hp i hi).1, lies17_reach (hp i hi).2 (h2 i hi)⟩⟩
/-- numbers that came in -/
theorem open_ins {fuel : Nat} {cs : List Value} {x : DataW H × List MemPlace} (h : DataW.trod enc Try.prog w 0 (fun _ => true) true fuel 40 cs = some x) (hw : ∀ y ∈ x.1.weights Try.prog 40, y ≤ reachBytes) :
    ∃ so n cap, cs = [.slice so n cap] ∧ 8 * n ≤ 140737488351232 ∧ ∃ L, RdG KIn w so n L ∧ ∀ i, i < n → -9223372036854775808 ≤ L.getD i 0 ∧ L.getD i 0 ≤ 9223372036854775807 := by
  obtain ⟨so, n, cap, e, _, _, D, sp, hd, hL⟩ := open_rowsD KIn (fun d y => -9223372036854775808 ≤ y ∧ y ≤ 9223372036854775807) Try.underlying40 c17_int one_in17 h
  obtain ⟨h1, h2⟩ := reach_rows Try.underlying40 hd hw
  rw [show Try.prog.bytesOf 3 = 8 by kernel_rfl] at h1
  have hr : reachBytes = 140737488351232 := rfl
  obtain ⟨L, hrd, hp⟩ := hL (by omega)
  exact ⟨so, n, cap, e, by omega, L, hrd, hp⟩
theorem open_insU {fuel : Nat} {cs : List Value} {x : DataW H × List MemPlace} (h : DataW.trod enc Try.prog w 0 (fun _ => true) true fuel 40 cs = some x) :
    ∃ so n cap, cs = [.slice so n cap] ∧ (n = 0 ∨ ∃ es sp, x.1 = .slice es sp ∧ es.length = n) ∧ (n ≤ 281474976710656 → ∃ L, RdG KIn w so n L ∧ ∀ i, i < n → -9223372036854775808 ≤ L.getD i 0 ∧ L.getD i 0 ≤ 9223372036854775807) := by
  obtain ⟨so, n, cap, e, _, _, D, sp, hd, hL⟩ := open_rowsD KIn (fun d y => -9223372036854775808 ≤ y ∧ y ≤ 9223372036854775807) Try.underlying40 c17_int one_in17 h
  exact ⟨so, n, cap, e, hd.imp id (fun h => ⟨_, _, h, by simp⟩), hL⟩
end
end Go.Proofs.Ytakdfckkljbghaa
