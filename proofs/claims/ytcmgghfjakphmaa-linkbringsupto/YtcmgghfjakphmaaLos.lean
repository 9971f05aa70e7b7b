/- Arguments opened: numbers. -/
import Derived.Test.YtcmgghfjakphmaaRows
import Derived.Test.YtcmgghfjakphmaaGb
import Derived.Test.YtcmgghfjakphmaaLkq
import Derived.Deep.Slices
import Derived.Deep.Fields
import Derived.ProofKit
import Derived.SizedLaws
import Derived.KernelRfl
namespace Go.Proofs.Ytcmgghfjakphmaa
open Go.ChangeShapes Go.WideShapes Go.ChangeAt Go.RowKit Go.Deep
set_option maxRecDepth 100000
set_option linter.unusedVariables false

theorem c17_int : Try.prog.cellsOf 3 = 1 := by kernel_rfl
theorem c17_bool : Try.prog.cellsOf 4 = 1 := by kernel_rfl
section
variable {H : Type} {enc : TypeId × Value → H} {w : World} {α : Type}
/-- A slice that came in, each element beside its reading. -/
theorem open_rowsD (K : Kd α) (Pr : DataW H → α → Prop) {t e : TypeId} (hu : Try.prog.underlying t = some (.slice e)) (hce : Try.prog.cellsOf e = K.k)
    (one : ∀ {fuel : Nat} {cs : List Value} {x : DataW H × List MemPlace}, cs.length = K.k → DataW.trod enc Try.prog w 0 (fun _ => true) true fuel e cs = some x → ∃ y : α, cs = K.f y ∧ Pr x.1 y)
    {fuel : Nat} {cs : List Value} {x : DataW H × List MemPlace} (h : DataW.trod enc Try.prog w 0 (fun _ => true) true fuel t cs = some x) :
    ∃ so n cap, cs = [.slice so n cap] ∧ n ≤ cap ∧ (so = none → cap = 0) ∧ ∃ (D : Nat → DataW H) (sp : List (DataW H)), (n = 0 ∨ x.1 = .slice ((List.range n).map D) sp) ∧ (n ≤ 281474976710656 → ∃ L, RdG K w so n L ∧ ∀ i, i < n → Pr (D i) (L.getD i K.d)) := by
  rcases open_slice hu h with ⟨rfl, rfl⟩ | ⟨a, len, cap, m, n, D, Pl, rfl, _, hl, hm, hmm, rfl, hx⟩
  · exact ⟨none, 0, 0, rfl, Nat.le_refl _, fun _ => rfl, fun _ => .nil, [], .inl rfl, fun _ => ⟨[], RdG.nil _ _, fun i hi => by omega⟩⟩
  · simp only [if_true] at hmm
    subst hmm
    rw [hce] at hx
    refine ⟨some a, len, m, rfl, hl, fun h => (by cases h), D, _, .inr rfl, fun h48 => ?_⟩
    have key : ∀ i, i < len → ∃ y : α, (∀ j, j < K.k → w.cell? ((a.add (i * K.k)).add j) = (K.f y)[j]?) ∧ Pr (D i) y := fun i hi => by
      obtain ⟨cs', h1, h2⟩ := hx i (by omega)
      obtain ⟨_, hlen, hc⟩ := World.cells?_some h1
      obtain ⟨y, rfl, hy⟩ := one hlen h2
      exact ⟨y, hc, hy⟩
    obtain ⟨f, hf⟩ : ∃ f : Nat → α, ∀ i, i < len → (∀ j, j < K.k → w.cell? ((a.add (i * K.k)).add j) = (K.f (f i))[j]?) ∧ Pr (D i) (f i) :=
      ⟨fun i => if h : i < len then Classical.choose (key i h) else K.d, fun i hi => by
        simp only [dif_pos hi]
        exact Classical.choose_spec (key i hi)⟩
    have hpk : ∀ i, i < len → ((List.range len).map f).getD i K.d = f i := fun i hi => by simp [List.getD, hi]
    refine ⟨(List.range len).map f, ⟨by simp, h48, ?_⟩, fun i hi => by rw [hpk i hi]; exact (hf i hi).2⟩
    by_cases h0 : len = 0
    · exact .inl h0
    right
    have hsp : a.spot = none := by
      have h1 := (hf 0 (by omega)).1 0 K.pos
      have h2 : ∃ v, (K.f (f 0))[0]? = some v := ⟨_, List.getElem?_eq_getElem (by rw [K.len]; exact K.pos)⟩
      obtain ⟨v, h2⟩ := h2
      rw [h2] at h1
      simpa [Addr.add] using World.cell?_spot h1
    obtain ⟨B, o, s⟩ := a
    simp at hsp
    subst hsp
    refine ⟨B, o, rfl, fun i hi j u hju => ?_⟩
    rw [hpk i hi] at hju
    have hj : j < K.k := by
      have := (List.getElem?_eq_some_iff.1 hju).1
      rwa [K.len] at this
    have hc := (hf i hi).1 j hj
    rw [add_plain, add_plain, hju] at hc
    exact hc
theorem weights_all_mem {P : Program} {e : TypeId} : ∀ {l : List (DataW H)} {d : DataW H}, d ∈ l → ∀ x ∈ d.weights P e, x ∈ DataW.weightsAll P e l
  | a :: r, d, h, x, hx => by
    simp only [DataW.weightsAll, List.mem_append]
    rcases List.mem_cons.1 h with rfl | h
    · exact .inl hx
    · exact .inr (weights_all_mem h x hx)
/-- what the reach says of a slice and its elements -/
theorem reach_rows {t e : TypeId} (hu : Try.prog.underlying t = some (.slice e)) {n : Nat} {d : DataW H} {D : Nat → DataW H} {sp : List (DataW H)} (hd : n = 0 ∨ d = .slice ((List.range n).map D) sp) (hw : ∀ x ∈ d.weights Try.prog t, x ≤ reachBytes) : n * Try.prog.bytesOf e ≤ reachBytes ∧ ∀ i, i < n → ∀ x ∈ (D i).weights Try.prog e, x ≤ reachBytes := by
  rcases hd with rfl | rfl
  · exact ⟨by omega, fun i hi => by omega⟩
  · have h2 := hw ((((List.range n).map D).length + sp.length) * Try.prog.bytesOf e) (by simp [DataW.weights, hu])
    rw [List.length_map, List.length_range] at h2
    refine ⟨Nat.le_trans (Nat.mul_le_mul_right _ (Nat.le_add_right _ _)) h2, fun i hi x hx => hw x ?_⟩
    simp only [DataW.weights, hu, List.mem_cons, List.mem_append]
    exact .inr (.inl (weights_all_mem (List.mem_map.2 ⟨i, by simpa using hi, rfl⟩) x hx))
theorem one_in17 {fuel : Nat} {cs : List Value} {x : DataW H × List MemPlace} (hl : cs.length = KIn.k) (h : DataW.trod enc Try.prog w 0 (fun _ => true) true fuel 3 cs = some x) : ∃ y : Int, cs = KIn.f y ∧ (-9223372036854775808 ≤ y ∧ y ≤ 9223372036854775807) := by
  obtain ⟨a, e0, _, w0⟩ := DataW.trod_int Try.underlying3 h
  exact ⟨a, e0, wfG_i64 w0⟩
/-- numbers that came in -/
theorem open_ins {fuel : Nat} {cs : List Value} {x : DataW H × List MemPlace} (h : DataW.trod enc Try.prog w 0 (fun _ => true) true fuel 43 cs = some x) (hw : ∀ y ∈ x.1.weights Try.prog 43, y ≤ reachBytes) :
    ∃ so n cap, cs = [.slice so n cap] ∧ 8 * n ≤ 140737488351232 ∧ ∃ L, RdG KIn w so n L ∧ ∀ i, i < n → -9223372036854775808 ≤ L.getD i 0 ∧ L.getD i 0 ≤ 9223372036854775807 := by
  obtain ⟨so, n, cap, e, _, _, D, sp, hd, hL⟩ := open_rowsD KIn (fun d y => -9223372036854775808 ≤ y ∧ y ≤ 9223372036854775807) Try.underlying43 c17_int one_in17 h
  obtain ⟨h1, h2⟩ := reach_rows Try.underlying43 hd hw
  rw [show Try.prog.bytesOf 3 = 8 by kernel_rfl] at h1
  have hr : reachBytes = 140737488351232 := rfl
  obtain ⟨L, hrd, hp⟩ := hL (by omega)
  exact ⟨so, n, cap, e, by omega, L, hrd, hp⟩
end
end Go.Proofs.Ytcmgghfjakphmaa
