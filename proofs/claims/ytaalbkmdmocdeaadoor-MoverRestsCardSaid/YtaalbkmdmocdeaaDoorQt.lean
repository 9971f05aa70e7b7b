/- A statement whose first operations only read (in a class of worlds) and whose last ones come behind them all, in the order of the text: one walk serves every order that Go leaves open. No function of the program is named here. -/
import Derived.StillTail
import Derived.Deep.QuietTactic
import Derived.BigQuiet
import Derived.Test.YtaalbkmdmocdeaaDoorMe
namespace Go.Proofs.YtaalbkmdmocdeaaDoor
open Go

/-- how many of the first k operations have not come up -/
def cnt (L : Array Bool) : Nat → Nat
  | 0 => 0
  | k + 1 => cnt L k + (if L.getD k true then 0 else 1)
theorem cnt_set_ge {L : Array Bool} {j : Nat} : ∀ {n : Nat}, n ≤ j → cnt (L.setIfInBounds j true) n = cnt L n
  | 0, _ => rfl
  | n + 1, h => by
    unfold cnt
    rw [cnt_set_ge (by omega), getD_set_ne true (by omega)]
theorem cnt_set {L : Array Bool} {j : Nat} (hu : L.getD j true = false) : ∀ {n : Nat}, j < n → cnt (L.setIfInBounds j true) n + 1 = cnt L n
  | 0, h => by omega
  | n + 1, h => by
    unfold cnt
    by_cases hj : j = n
    · subst hj
      have hlt : j < L.size := by
        rcases Nat.lt_or_ge j L.size with h' | h'
        · exact h'
        · simp [Array.getElem?_eq_none h'] at hu
      rw [cnt_set_ge (Nat.le_refl _), hu]
      simp [hlt]
    · rw [getD_set_ne true hj]
      have := cnt_set hu (n := n) (by omega)
      omega
theorem cnt_zero {L : Array Bool} : ∀ {n : Nat}, cnt L n = 0 → ∀ i, i < n → L.getD i true = true
  | 0, _, i, h => by omega
  | n + 1, hc, i, h => by
    unfold cnt at hc
    by_cases hi : i = n
    · subst hi
      cases hb : L.getD i true with
      | true => rfl
      | false => rw [hb] at hc; simp at hc
    · exact cnt_zero (n := n) (by omega) i (by omega)
theorem cnt_pos {L : Array Bool} : ∀ {n : Nat}, cnt L n ≠ 0 → ∃ i, i < n ∧ L.getD i true = false ∧ ∀ k, k < i → L.getD k true = true
  | 0, h => by simp [cnt] at h
  | n + 1, hc => by
    by_cases h0 : cnt L n = 0
    · refine ⟨n, by omega, ?_, cnt_zero h0⟩
      unfold cnt at hc
      cases hb : L.getD n true with
      | true => rw [hb, h0] at hc; simp at hc
      | false => rfl
    · obtain ⟨i, hi, h1, h2⟩ := cnt_pos h0
      exact ⟨i, by omega, h1, h2⟩
theorem cnt_new {N : Nat} : ∀ {n : Nat}, n ≤ N → cnt (Array.replicate N false) n = n
  | 0, _ => rfl
  | n + 1, h => by
    unfold cnt
    rw [cnt_new (by omega)]
    simp [show n < N by omega]

/-- what the kernel looks at: each of the first n waits for earlier ones alone, and hangs on none of the last ones -/
def lowB (ops : Array Oper) (n : Nat) : Bool :=
  (List.range n).all fun i => match ops[i]? with
    | some o => (o.after.all fun e => decide (e.on < i)) && (match o.guard with | none => true | some (j, _) => decide (j < n))
    | none => false
theorem lowB_spec {ops : Array Oper} {n i : Nat} {o : Oper} (h : lowB ops n = true) (hi : i < n) (ho : ops[i]? = some o) :
    (∀ e ∈ o.after, e.on < i) ∧ ∀ j b, o.guard = some (j, b) → j < n := by
  have h1 := List.all_eq_true.1 h i (List.mem_range.2 hi)
  simp only [ho, Bool.and_eq_true] at h1
  refine ⟨fun e he => by simpa using (Array.all_eq_true'.1 h1.1) e he, fun j b hg => ?_⟩
  have h2 := h1.2
  rw [hg] at h2
  simpa using h2

section
variable {P : Program} {C : World → Prop}
theorem head_at {l : List Oper} {n j : Nat} (hj : j < n) : (l.take n).toArray[j]? = l.toArray[j]? := by simp [hj]
theorem wanted_head {l : List Oper} {n : Nat} {o : Oper} {t : Array Value} (hg : ∀ j b, o.guard = some (j, b) → j < n) :
    Region.wanted o (yielded (l.take n).toArray t) = Region.wanted o (yielded l.toArray t) := by
  unfold Region.wanted
  cases h : o.guard with
  | none => rfl
  | some x =>
    obtain ⟨j, b⟩ := x
    have : yielded (l.take n).toArray t j = yielded l.toArray t j := by unfold yielded; rw [head_at (hg j b h)]
    simp only [this]
theorem qOp_head {l : List Oper} {n j : Nat} (hlow : lowB l.toArray n = true) (hj : j < n) {K : Act → Prop} {a : Act} (h : qOp P (l.take n).toArray C j K a) : qOp P l.toArray C j K a := by
  unfold qOp at h ⊢
  rw [head_at hj] at h
  cases ho : l.toArray[j]? with
  | none => simpa only [ho] using h
  | some o =>
    simp only [ho] at h ⊢
    rw [wanted_head (lowB_spec hlow hj ho).2] at h
    exact h

/-- the first ones in whatever order, then the rest -/
theorem any_of_head {l : List Oper} {n g : Nat} {Lq : Act → Prop} {Q' : Exit → Act → World → Prop} (hlow : lowB l.toArray n = true) (hs : Region.sinkB .any l.toArray n = true) (hc : Region.chainB .any l.toArray n = true) (hn : n < l.length)
    (hdone : ∀ (L : Array Bool) a w, L.size = l.length → (∀ i, i < n → L.getD i true = true) → (∀ t, n ≤ t → t < l.length → L.getD t true = false) → C w → Lq a → wpAny P .any l.toArray Q' g L a w) :
    ∀ (f : Nat) (lh L : Array Bool) (a : Act) (w : World), C w → (∀ i b, i < n → L.getD i b = lh.getD i b) → HeadInv .any l.toArray n L → cnt L n = f →
      wpAnyQ P .any (l.take n).toArray C Lq f lh a → wpAny P .any l.toArray Q' (f + g) L a w
  | 0, lh, L, a, w, hw, hag, inv, hcnt, h => by
    rw [Nat.zero_add]
    exact hdone L a w (by simpa using inv.size) (cnt_zero hcnt) (fun t h1 h2 => inv.tail t h1 (by simpa using h2)) hw h.2
  | f + 1, lh, L, a, w, hw, hag, inv, hcnt, h => by
    rw [show f + 1 + g = (f + g) + 1 by omega]
    obtain ⟨i, hi, hun, hmin⟩ := cnt_pos (L := L) (n := n) (by omega)
    have hsz : l.toArray.size = l.length := by simp
    refine ⟨fun h0 => ?_, fun j hj => ?_⟩
    · exfalso
      have hio : ∃ o, l.toArray[i]? = some o := ⟨_, Array.getElem?_eq_getElem (by simp; omega)⟩
      obtain ⟨o, ho⟩ := hio
      have : i ∈ Region.ready .any l.toArray L := mem_ready.2 ⟨hun, o, ho, fun e he _ => by
        have hlt := (lowB_spec hlow hi ho).1 e he
        have hin : e.on < L.size := by rw [inv.size]; simp; omega
        have := hmin e.on hlt
        simp [hin] at this ⊢
        exact this⟩
      rw [h0] at this
      cases this
    · have hjn : j < n := by
        rcases Nat.lt_or_ge j n with h' | h'
        · exact h'
        · exact absurd hj (tail_waits hs hc (by rw [hsz]; exact hn) inv _ i rfl hi hun j h')
      obtain ⟨hju, o, ho, hall⟩ := mem_ready.1 hj
      have hjh : j ∈ Region.ready .any (l.take n).toArray lh := mem_ready.2 ⟨by rw [← hag j true hjn]; exact hju, o, by rw [head_at hjn]; exact ho, fun e he hb => by
        have hlt := (lowB_spec hlow hjn ho).1 e he
        rw [← hag e.on false (by omega)]
        exact hall e he hb⟩
      have hq := qOp_head hlow hjn (h.2 j hjh)
      refine wpOp_of_qOp hw (fun a' w' hw' h' => any_of_head hlow hs hc hn hdone f (lh.setIfInBounds j true) (L.setIfInBounds j true) a' w' hw' ?_ (inv.set hj hjn) ?_ h') hq
      · intro k b hk
        by_cases hjk : j = k
        · subst hjk
          have h1 : j < L.size := by rw [inv.size, hsz]; omega
          have h2 : j < lh.size := by
            rcases Nat.lt_or_ge j lh.size with h' | h'
            · exact h'
            · have := (mem_ready.1 hjh).1
              simp [Array.getElem?_eq_none h'] at this
          simp [h1, h2]
        · rw [getD_set_ne b hjk, getD_set_ne b hjk]
          exact hag k b hk
      · have := cnt_set hju hjn
        omega

def tailB (l : List Oper) (n : Nat) : Bool :=
  lowB l.toArray n && Region.sinkB .any l.toArray n && Region.chainB .any l.toArray n && decide (n < l.length) && Region.lexB .any (l.take n).toArray &&
    Region.seqB .any l.toArray (l.length - n) n (List.replicate n true ++ List.replicate (l.length - n) false).toArray
theorem full_eq {N n : Nat} {L : Array Bool} (hn : n ≤ N) (hsz : L.size = N) (h1 : ∀ i, i < n → L.getD i true = true) (h2 : ∀ t, n ≤ t → t < N → L.getD t true = false) :
    L = (List.replicate n true ++ List.replicate (N - n) false).toArray := by
  apply Array.ext
  · simp; omega
  · intro i hi1 hi2
    by_cases hi : i < n
    · have := h1 i hi
      simp [hi1] at this
      simp [hi, this]
    · have := h2 i (by omega) (by omega)
      simp [hi1] at this
      simp [List.getElem_append, hi, this]
/-- One walk, in the order of the text, of a statement whose operations from the n-th on come behind all others. -/
theorem region_tail {id : Nat} {Q : Exit → Act → World → Prop} {a : Act} {w : World} {l : List Oper} (n : Nat) (hm : P.follows .mixedOrders = true) (hB : tailB l n = true) (hC : C { w with drawn := w.drawn + 1 })
    (h : wpQuiet P (l.take n).toArray C (fun a' => ∀ w', C w' → wpList P l.toArray Q (l.drop n) a' w') (l.take n) a) : (Code.region id l.toArray true).wp P Q a w := by
  simp only [tailB, Bool.and_eq_true, decide_eq_true_eq] at hB
  obtain ⟨⟨⟨⟨⟨hlow, hs⟩, hc⟩, hn⟩, hlex⟩, hseq⟩ := hB
  simp only [Region.lexB, Bool.and_eq_true] at hlex
  have hlen : (l.take n).length = n := by simp; omega
  have H := wpAnyQ_lex (P := P) (C := C) (md := .any) hlex.1 (l.take n) 0 (Array.replicate (l.take n).toArray.size false) a (by simp) (by simpa using hlex.2) h
  have inv0 : HeadInv .any l.toArray n (Array.replicate l.length false) :=
    ⟨by simp, fun j oj _ hl => (by rw [getD_replicate_false] at hl; cases hl), fun t _ ht => getD_in (by simpa using ht) (getD_replicate_false _ _)⟩
  refine wp_region_any hm ?_
  have key := any_of_head (P := P) (C := C) (Q' := Q) (g := l.length - n) hlow hs hc hn (Lq := fun a' => ∀ w', C w' → wpList P l.toArray Q (l.drop n) a' w') (fun L a' w' hsz h1 h2 hw' hq => by
    have e := full_eq (by omega) hsz h1 h2
    subst e
    have := wpAny_of_seq (P := P) (md := .any) (ops := l.toArray) (Q' := Q) (l.drop n) n _ a' w' (fun j => by simp [List.getElem?_drop]) (by simpa using hseq) (hq w' hw')
    simpa using this) n (Array.replicate n false) (Array.replicate l.length false) a _ hC (fun i b hi => by
      simp [show i < l.length by omega, hi]) inv0 (cnt_new (by omega)) (by simp only [List.size_toArray, hlen] at H; exact H)
  have e : n + (l.length - n) = l.toArray.size := by simp; omega
  rw [e] at key
  simpa using key
end

/-- a world in which nothing that was there in w has turned -/
structure Aft (w : World) : Type where
  u : World
  s : Still w u
theorem Aft.here (w : World) : Nonempty (Aft w) := ⟨⟨w, Fr.refl _ w⟩⟩
/-- those worlds -/
abbrev Cl (w : World) : World → Prop := fun w' => ∃ z : Aft w, w' = z.u
theorem Cl.here (w : World) : Cl w { w with drawn := w.drawn + 1 } := ⟨⟨w.drew, (Fr.refl _ w).drew⟩, rfl⟩
theorem Calls.cl {P : Program} {f : FuncId} {args : Array Value} {w : World} {z : Aft w} {v : Value}
    (h : Calls P f args z.u fun e w' => e = .returned v ∧ Still z.u w') : Calls P f args z.u fun e w'' => e = .returned v ∧ ∃ y : Aft w, w'' = y.u :=
  h.mono fun _ w' ⟨he, hs⟩ => ⟨he, ⟨w', z.s.trans hs⟩, rfl⟩
theorem Calls.cl_same {P : Program} {f : FuncId} {args : Array Value} {w : World} {z : Aft w} {v : Value}
    (h : Calls P f args z.u fun e w' => e = .returned v ∧ w' = z.u) : Calls P f args z.u fun e w'' => e = .returned v ∧ ∃ y : Aft w, w'' = y.u :=
  h.mono fun _ _ ⟨he, hs⟩ => ⟨he, z, hs⟩
/-- the walk of a whole statement that only reads, in that class -/
theorem region_all {P : Program} {id : Nat} {Q : Exit → Act → World → Prop} {a : Act} {w : World} {l : List Oper} (hm : P.follows .mixedOrders = true) (hB : Region.lexB .any l.toArray = true)
    (h : wpQuiet P l.toArray (fun w' => ∃ z : Aft w, w' = z.u) (fun a' => ∀ w', Still w w' → Q .normal a' w') l a) : (Code.region id l.toArray true).wp P Q a w :=
  wp_region_quiet (C := Cl w) hm hB (Cl.here w) (by
    have e : (fun a' => ∀ w', Still w w' → Q .normal a' w') = fun a' => ∀ w', Cl w w' → Q .normal a' w' := funext fun a' => propext ⟨fun h w' ⟨z, e⟩ => e ▸ h z.u z.s, fun h w' hs => h w' ⟨⟨w', hs⟩, rfl⟩⟩
    rw [e] at h
    simpa using h)
/-- .. and of one whose operations from the n-th on come last -/
theorem region_rest {P : Program} {id : Nat} {Q : Exit → Act → World → Prop} {a : Act} {w : World} {l : List Oper} (n : Nat) (hm : P.follows .mixedOrders = true) (hB : tailB l n = true)
    (h : wpQuiet P (l.take n).toArray (fun w' => ∃ z : Aft w, w' = z.u) (fun a' => ∀ w', Still w w' → wpList P l.toArray Q (l.drop n) a' w') (l.take n) a) : (Code.region id l.toArray true).wp P Q a w := by
  have e : (fun a' => ∀ w', Still w w' → wpList P l.toArray Q (l.drop n) a' w') = fun a' => ∀ w', Cl w w' → wpList P l.toArray Q (l.drop n) a' w' := funext fun a' => propext ⟨fun h w' ⟨z, e⟩ => e ▸ h z.u z.s, fun h w' hs => h w' ⟨⟨w', hs⟩, rfl⟩⟩
  rw [e] at h
  exact region_tail (C := Cl w) n hm hB (Cl.here w) h
theorem Cl.cell {w : World} {p : Addr} {v : Value} (h : w.cell? p = some v) : ∀ z : Aft w, z.u.cell? p = some v :=
  fun z => (z.s.cell (World.block_lt_of_cell? w _ h) (fun e => e)).trans h
end Go.Proofs.YtaalbkmdmocdeaaDoor
