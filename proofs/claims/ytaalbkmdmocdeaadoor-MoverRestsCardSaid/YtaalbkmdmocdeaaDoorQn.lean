/- A statement with a new variable in it, whose block Go may lay at any time: in whatever order, each operation is looked at alone, in the frame that all of them leave. No function of the program is named here. -/
import Derived.Test.YtaalbkmdmocdeaaDoorQt
namespace Go.Proofs.YtaalbkmdmocdeaaDoor
open Go

/-- one operation, done -/
theorem wp_of_at {P : Program} {o : Oper} {a : Act} {w : World} {v : Value} {K : Act → World → Prop} {Q : Exit → Act → World → Prop} (h : o.quietAt P a (fun u => Still w u) w v)
    (hK : ∀ w', Still w w' → K (a.put o.dst v) w') : o.wp P a w K Q := by
  unfold Oper.quietAt at h
  unfold Oper.wp
  generalize (execOp a.eval o).run P w = r at h ⊢
  cases r with
  | halt x w' => simp only [Oper.quietUpon] at h
  | ok n w' =>
    cases n <;> simp only [Oper.quietUpon] at h
    case value u =>
      obtain ⟨rfl, rfl⟩ := h
      rw [Oper.upon_value]
      exact hK _ (Fr.refl _ _)
    case skip =>
      obtain ⟨rfl, rfl⟩ := h
      rw [Oper.upon_skip]
      exact hK _ (Fr.refl _ _)
    case enter f args =>
      obtain ⟨rfl, hc⟩ := h
      simp only [Oper.upon]
      exact hc.mono fun e w'' ⟨he, hs⟩ => by subst he; exact hK _ hs

/-- what the kernel looks at: the first n write slots of their own, read what is there or what they wait for, and have no guard; d is the new variable's slot -/
def eachB (ops : Array Oper) (n d : Nat) : Bool :=
  (List.range n).all fun j => match ops[j]? with
    | some o => o.guard.isNone && (o.dst != some d) && (o.dst.isSome) &&
        ((List.range n).all fun i => (i == j) || (match ops[i]? with | some p => p.dst != o.dst | none => false)) &&
        o.op.operands.toList.all fun x => match x with
          | .tmp t => (t != d) && (List.range n).all fun i => match ops[i]? with
              | some p => (p.dst != some t) || o.after.any fun e => e.on == i && Region.binds .any e
              | none => false
          | _ => true
    | none => false

section
variable {P : Program} {W : World} {l : List Oper} {n d : Nat} {A : Act} {z : Obj}
/-- the frame so far -/
structure Mid (l : List Oper) (n d : Nat) (A : Act) (W : World) (z : Obj) (L : Array Bool) (a : Act) (w : World) : Prop where
  still : Still W w
  size : a.tmps.size = A.tmps.size
  defers : a.defers = A.defers
  rest : ∀ t, (∀ j o, j < n → l[j]? = some o → o.dst ≠ some t) → t ≠ d → a.tmps[t]? = A.tmps[t]?
  done : ∀ j o t, j < n → l[j]? = some o → o.dst = some t → L.getD j true = true → a.tmps[t]? = A.tmps[t]?
  new : L.getD n true = true → ∃ g, a.tmps[d]? = some (.pointer (some ⟨g, 0, none⟩)) ∧ w.heap[g]? = some z ∧ W.heap.size ≤ g

theorem each_spec (h : eachB l.toArray n d = true) {j : Nat} {o : Oper} (hj : j < n) (ho : l[j]? = some o) :
    o.guard = none ∧ o.dst ≠ some d ∧ (∃ t, o.dst = some t) ∧ (∀ i p, i < n → l[i]? = some p → i ≠ j → p.dst ≠ o.dst) ∧
    ∀ t, .tmp t ∈ o.op.operands → t ≠ d ∧ ∀ i p, i < n → l[i]? = some p → p.dst = some t → ∃ e ∈ o.after, e.on = i ∧ Region.binds .any e = true := by
  have h1 := List.all_eq_true.1 h j (List.mem_range.2 hj)
  have ho' : l.toArray[j]? = some o := by simpa using ho
  simp only [ho', Bool.and_eq_true] at h1
  obtain ⟨⟨⟨⟨h2, h3⟩, h4⟩, h5⟩, h6⟩ := h1
  refine ⟨by simpa using h2, by simpa using h3, Option.isSome_iff_exists.1 h4, fun i p hi hp hij => ?_, fun t ht => ?_⟩
  · have := List.all_eq_true.1 h5 i (List.mem_range.2 hi)
    have hp' : l.toArray[i]? = some p := by simpa using hp
    simp only [hp', Bool.or_eq_true, beq_iff_eq] at this
    rcases this with e | e
    · exact absurd e hij
    · simpa using e
  · have := List.all_eq_true.1 h6 (.tmp t) (by simpa using ht)
    simp only [Bool.and_eq_true] at this
    refine ⟨by simpa using this.1, fun i p hi hp hd => ?_⟩
    have h7 := List.all_eq_true.1 this.2 i (List.mem_range.2 hi)
    have hp' : l.toArray[i]? = some p := by simpa using hp
    simp only [hp', Bool.or_eq_true] at h7
    rcases h7 with e | e
    · simp [hd] at e
    · obtain ⟨e, he, hb⟩ := Array.any_eq_true'.1 e
      simp only [Bool.and_eq_true, beq_iff_eq] at hb
      exact ⟨e, he, hb.1, hb.2⟩
theorem tmps_eval {a b : Act} {t : Nat} (h : a.tmps[t]? = b.tmps[t]?) : a.eval (.tmp t) = b.eval (.tmp t) := by
  simp only [Act.eval, Array.getD_eq_getD_getElem?, h]
theorem getD_true_false {L : Array Bool} {i : Nat} (hi : i < L.size) (h : L.getD i false = true) : L.getD i true = true := by
  simp [hi] at h ⊢; exact h
theorem any_new {dn : Nat} {on : Oper} {g' : Nat} {Q' : Exit → Act → World → Prop} (hE : eachB l.toArray n dn = true) (hsel : Region.noSelect l.toArray = true) (hlow : lowB l.toArray (n + 1) = true)
    (hs : Region.sinkB .any l.toArray (n + 1) = true) (hc : Region.chainB .any l.toArray (n + 1) = true) (hn : n + 1 < l.length) (hon : l[n]? = some on) (hdn : on.dst = some dn) (hgn : on.guard = none) (hdA : dn < A.tmps.size)
    (hop : ∀ j o, j < n → l[j]? = some o → ∀ w, Still W w → ∀ t, o.dst = some t → o.quietAt P A (fun u => Still w u) w (A.tmps.getD t undef) ∧ t < A.tmps.size)
    (hnew : ∀ w, Still W w → ∀ a : Act, (execOp a.eval on).run P w = .ok (.value (.pointer (some ⟨w.heap.size, 0, none⟩))) (w.alloc z))
    (hdone : ∀ (L : Array Bool) a w, L.size = l.length → (∀ i, i < n + 1 → L.getD i true = true) → (∀ t, n + 1 ≤ t → t < l.length → L.getD t true = false) → Mid l n dn A W z L a w → wpAny P .any l.toArray Q' g' L a w) :
    ∀ (f : Nat) (L : Array Bool) (a : Act) (w : World), HeadInv .any l.toArray (n + 1) L → cnt L (n + 1) = f → Mid l n dn A W z L a w → wpAny P .any l.toArray Q' (f + g') L a w
  | 0, L, a, w, inv, hcnt, hm => by
    rw [Nat.zero_add]
    exact hdone L a w (by simpa using inv.size) (cnt_zero hcnt) (fun t h1 h2 => inv.tail t h1 (by simpa using h2)) hm
  | f + 1, L, a, w, inv, hcnt, hm => by
    rw [show f + 1 + g' = (f + g') + 1 by omega]
    obtain ⟨i, hi, hun, hmin⟩ := cnt_pos (L := L) (n := n + 1) (by omega)
    have hsz : l.toArray.size = l.length := by simp
    have hLs : L.size = l.length := by rw [inv.size, hsz]
    refine ⟨fun h0 => ?_, fun j hj => ?_⟩
    · exfalso
      obtain ⟨o, ho⟩ : ∃ o, l.toArray[i]? = some o := ⟨_, Array.getElem?_eq_getElem (by simp; omega)⟩
      have : i ∈ Region.ready .any l.toArray L := mem_ready.2 ⟨hun, o, ho, fun e he _ => by
        have hlt := (lowB_spec hlow hi ho).1 e he
        have hin : e.on < L.size := by omega
        have := hmin e.on hlt
        simp [hin] at this ⊢
        exact this⟩
      rw [h0] at this
      cases this
    · have hjn : j < n + 1 := by
        rcases Nat.lt_or_ge j (n + 1) with h' | h'
        · exact h'
        · exact absurd hj (tail_waits hs hc (by rw [hsz]; exact hn) inv _ i rfl hi hun j h')
      obtain ⟨hju, o, ho, hall⟩ := mem_ready.1 hj
      have ho' : l[j]? = some o := by simpa using ho
      have next : ∀ (a' : Act) (w' : World), Mid l n dn A W z (L.setIfInBounds j true) a' w' → wpAny P .any l.toArray Q' (f + g') (L.setIfInBounds j true) a' w' := fun a' w' hm' =>
        any_new hE hsel hlow hs hc hn hon hdn hgn hdA hop hnew hdone f _ a' w' (inv.set hj hjn) (by have := cnt_set hju hjn; omega) hm'
      unfold wpOp
      simp only [ho]
      by_cases hjN : j = n
      · subst hjN
        obtain rfl : on = o := Option.some.inj (hon.symm.trans ho')
        rw [if_pos (by unfold Region.wanted; rw [hgn])]
        refine .inl ?_
        unfold Oper.wp
        rw [hnew w hm.still a, Oper.upon_value]
        refine next _ _ ⟨hm.still.trans (Still.alloc w z), ?_, ?_, fun t h1 h2 => ?_, fun k p t hk hp ht hl => ?_, fun _ => ⟨w.heap.size, ?_, ?_, hm.still.size⟩⟩
        · simp [Act.put, hdn, hm.size]
        · simp [Act.put, hdn, hm.defers]
        · simp only [Act.put, hdn, Array.getElem?_setIfInBounds_ne (Ne.symm h2)]
          exact hm.rest t h1 h2
        · have hne : t ≠ dn := fun e => (each_spec hE hk hp).2.1 (by rw [ht, e])
          rw [getD_set_ne true (by omega)] at hl
          simp only [Act.put, hdn, Array.getElem?_setIfInBounds_ne (Ne.symm hne)]
          exact hm.done k p t hk hp ht hl
        · simp only [Act.put, hdn]
          rw [Array.getElem?_setIfInBounds_self]
          simp [hm.size, hdA]
        · exact heap_alloc_new w z
      · have hj' : j < n := by omega
        obtain ⟨hg, hd1, ⟨t, ht⟩, hd2, hopn⟩ := each_spec hE hj' ho'
        rw [if_pos (by unfold Region.wanted; rw [hg])]
        refine .inl ?_
        have hcong : execOp a.eval o = execOp A.eval o := execOp_congr o (fun cs b => Region.noSelect_spec hsel j o cs b ho) fun x hx => by
          cases x with
          | tmp s =>
            obtain ⟨hs1, hs2⟩ := hopn s hx
            refine tmps_eval ?_
            by_cases hex : ∃ k p, k < n ∧ l[k]? = some p ∧ p.dst = some s
            · obtain ⟨k, p, hk, hp, hps⟩ := hex
              obtain ⟨e, he, heo, hb⟩ := hs2 k p hk hp hps
              have := hall e he hb
              rw [heo] at this
              exact hm.done k p s hk hp hps (getD_true_false (by omega) this)
            · exact hm.rest s (fun k p hk hp hps => hex ⟨k, p, hk, hp, hps⟩) hs1
          | const v => rfl
          | global g => rfl
          | func f => rfl
        obtain ⟨hq, hta⟩ := hop j o hj' ho' w hm.still t ht
        have hq' : o.quietAt P a (fun u => Still w u) w (A.tmps.getD t undef) := by
          unfold Oper.quietAt at hq ⊢
          rw [hcong]
          exact hq
        refine wp_of_at hq' fun w' hw' => next _ _ ⟨hm.still.trans hw', ?_, ?_, fun s h1 h2 => ?_, fun k p s hk hp hps hl => ?_, fun hl => ?_⟩
        · simp [Act.put, ht, hm.size]
        · simp [Act.put, ht, hm.defers]
        · have hne : t ≠ s := fun e => h1 j o hj' ho' (by rw [ht, e])
          simp only [Act.put, ht, Array.getElem?_setIfInBounds_ne hne]
          exact hm.rest s h1 h2
        · by_cases hkj : k = j
          · subst hkj
            obtain rfl : o = p := Option.some.inj (ho'.symm.trans hp)
            obtain rfl : t = s := Option.some.inj (ht.symm.trans hps)
            simp only [Act.put, ht]
            rw [Array.getElem?_setIfInBounds_self]
            simp [hm.size, hta]
          · have hne : t ≠ s := fun e => hd2 k p hk hp hkj (by rw [ht, hps, e])
            rw [getD_set_ne true (by omega)] at hl
            simp only [Act.put, ht, Array.getElem?_setIfInBounds_ne hne]
            exact hm.done k p s hk hp hps hl
        · rw [getD_set_ne true hjN] at hl
          obtain ⟨g, hg1, hg2, hg3⟩ := hm.new hl
          have hne : t ≠ dn := fun e => hd1 (by rw [ht, e])
          refine ⟨g, ?_, hw'.kept_still hg2, hg3⟩
          simp only [Act.put, ht, Array.getElem?_setIfInBounds_ne hne]
          exact hg1

def newB? (l : List Oper) (n d : Nat) : Bool :=
  eachB l.toArray n d && Region.noSelect l.toArray && lowB l.toArray (n + 1) && Region.sinkB .any l.toArray (n + 1) && Region.chainB .any l.toArray (n + 1) && decide (n + 1 < l.length) &&
    Region.seqB .any l.toArray (l.length - (n + 1)) (n + 1) (List.replicate (n + 1) true ++ List.replicate (l.length - (n + 1)) false).toArray
/-- In whatever order: the first n operations, and the n-th, which lays a new block; then the rest. A: the frame with the first n done. -/
theorem region_new {id : Nat} {Q : Exit → Act → World → Prop} {a : Act} {w : World} {on : Oper} (n d : Nat) (A : Act) (z : Obj) (hm : P.follows .mixedOrders = true) (hB : newB? l n d = true) (hon : l[n]? = some on) (hdn : on.dst = some d) (hgn : on.guard = none) (hdA : d < A.tmps.size)
    (hsize : a.tmps.size = A.tmps.size) (hdef : a.defers = A.defers) (hrest : ∀ t, (∀ j o, j < n → l[j]? = some o → o.dst ≠ some t) → t ≠ d → a.tmps[t]? = A.tmps[t]?)
    (hop : ∀ j o, j < n → l[j]? = some o → ∀ u, Still w u → ∀ t, o.dst = some t → o.quietAt P A (fun v => Still u v) u (A.tmps.getD t undef) ∧ t < A.tmps.size)
    (hnew : ∀ u, Still w u → ∀ b : Act, (execOp b.eval on).run P u = .ok (.value (.pointer (some ⟨u.heap.size, 0, none⟩))) (u.alloc z))
    (h : ∀ u g, Still w u → w.heap.size ≤ g → u.heap[g]? = some z → wpList P l.toArray Q (l.drop (n + 1)) (A.put (some d) (.pointer (some ⟨g, 0, none⟩))) u) : (Code.region id l.toArray true).wp P Q a w := by
  simp only [newB?, Bool.and_eq_true, decide_eq_true_eq] at hB
  obtain ⟨⟨⟨⟨⟨⟨hE, hsel⟩, hlow⟩, hs⟩, hc⟩, hn⟩, hseq⟩ := hB
  have inv0 : HeadInv .any l.toArray (n + 1) (Array.replicate l.length false) :=
    ⟨by simp, fun j oj _ hl => (by rw [getD_replicate_false] at hl; cases hl), fun t _ ht => getD_in (by simpa using ht) (getD_replicate_false _ _)⟩
  refine wp_region_any hm ?_
  have hst : Still w { w with drawn := w.drawn + 1 } := (Fr.refl _ w).drew
  have key := any_new (P := P) (W := w) (A := A) (z := z) (Q' := Q) (g' := l.length - (n + 1)) hE hsel hlow hs hc hn hon hdn hgn hdA hop hnew (fun L a' w' hsz h1 h2 hm' => by
    have e := full_eq (by omega) hsz h1 h2
    obtain ⟨g, hg1, hg2, hg3⟩ := hm'.new (h1 n (by omega))
    have ea : a' = A.put (some d) (.pointer (some ⟨g, 0, none⟩)) := by
      obtain ⟨ts, df⟩ := a'
      obtain ⟨Ts, Df⟩ := A
      have e2 : df = Df := hm'.defers
      subst e2
      have e1 : ts = Ts.setIfInBounds d (.pointer (some ⟨g, 0, none⟩)) := by
        apply Array.ext_getElem?
        intro t
        by_cases htd : t = d
        · subst htd
          rw [hg1, Array.getElem?_setIfInBounds_self]
          simp only [show t < Ts.size from hdA, if_true]
        · rw [Array.getElem?_setIfInBounds_ne (Ne.symm htd)]
          by_cases hex : ∃ k p, k < n ∧ l[k]? = some p ∧ p.dst = some t
          · obtain ⟨k, p, hk, hp, hps⟩ := hex
            exact hm'.done k p t hk hp hps (h1 k (by omega))
          · exact hm'.rest t (fun k p hk hp hps => hex ⟨k, p, hk, hp, hps⟩) htd
      rw [e1]; rfl
    rw [ea]
    subst e
    have := wpAny_of_seq (P := P) (md := .any) (ops := l.toArray) (Q' := Q) (l.drop (n + 1)) (n + 1) _ _ w' (fun j => by simp [List.getElem?_drop]) (by simpa using hseq) (h w' g hm'.still hg3 hg2)
    simpa using this) (n + 1) (Array.replicate l.length false) a { w with drawn := w.drawn + 1 } inv0 (cnt_new (by omega))
    ⟨hst, hsize, hdef, hrest, fun j o t hj ho ht hl => (by simp [show j < l.length by omega] at hl), fun hl => (by simp [show n < l.length by omega] at hl)⟩
  have e : n + 1 + (l.length - (n + 1)) = l.toArray.size := by simp; omega
  rw [e] at key
  simpa using key
/-- values laid into the slots of operations -/
def puts (a : Act) : List Oper → List Value → Act
  | o :: r, v :: vs => puts (a.put o.dst v) r vs
  | _, _ => a
theorem puts_same : ∀ (ops : List Oper) (vs : List Value) (a : Act), (puts a ops vs).tmps.size = a.tmps.size ∧ (puts a ops vs).defers = a.defers ∧ ∀ t, (∀ o ∈ ops, o.dst ≠ some t) → (puts a ops vs).tmps[t]? = a.tmps[t]?
  | [], vs, a => by cases vs <;> exact ⟨rfl, rfl, fun _ _ => rfl⟩
  | o :: r, [], a => ⟨rfl, rfl, fun _ _ => rfl⟩
  | o :: r, v :: vs, a => by
    obtain ⟨h1, h2, h3⟩ := puts_same r vs (a.put o.dst v)
    have e : puts a (o :: r) (v :: vs) = puts (a.put o.dst v) r vs := rfl
    rw [e, h1, h2]
    refine ⟨?_, ?_, fun t ht => ?_⟩
    · cases hd : o.dst <;> simp [Act.put]
    · cases hd : o.dst <;> simp [Act.put]
    · rw [h3 t fun p hp => ht p (List.mem_cons_of_mem _ hp)]
      have := ht o (List.mem_cons_self ..)
      cases hd : o.dst with
      | none => rfl
      | some d =>
        rw [hd] at this
        have hne : d ≠ t := fun e => this (by rw [e])
        simp only [Act.put, Array.getElem?_setIfInBounds_ne hne]
/-- each operation, in the frame that all leave -/
def wpEach (P : Program) (W : World) (A : Act) : List Oper → Prop
  | [] => True
  | o :: r => (∀ u, Still W u → o.quietAt P A (fun v => Still u v) u (A.tmps.getD (o.dst.getD 0) undef)) ∧ wpEach P W A r
theorem wpEach_at : ∀ {ops : List Oper}, wpEach P W A ops → ∀ (j : Nat) (o : Oper), ops[j]? = some o → ∀ u, Still W u → o.quietAt P A (fun v => Still u v) u (A.tmps.getD (o.dst.getD 0) undef)
  | [], _, j, o, h => by simp at h
  | p :: r, hw, 0, o, h => by
    simp at h
    subst h
    exact hw.1
  | p :: r, hw, j + 1, o, h => wpEach_at hw.2 j o (by simpa using h)
def inB (l : List Oper) (n m : Nat) : Bool := (l.take n).all fun o => match o.dst with | some t => decide (t < m) | none => true
/-- the same, the frame made of the values -/
theorem region_var {id : Nat} {Q : Exit → Act → World → Prop} {a : Act} {w : World} {on : Oper} (n d : Nat) (z : Obj) (vs : List Value) (A : Act) (hm : P.follows .mixedOrders = true) (hB : newB? l n d = true) (hon : l[n]? = some on) (hdn : on.dst = some d) (hgn : on.guard = none)
    (hA : puts a (l.take n) vs = A) (hI : inB l n A.tmps.size = true) (hdA : d < A.tmps.size)
    (hop : wpEach P w A (l.take n))
    (hnew : ∀ u, Still w u → ∀ b : Act, (execOp b.eval on).run P u = .ok (.value (.pointer (some ⟨u.heap.size, 0, none⟩))) (u.alloc z))
    (h : ∀ u g, Still w u → w.heap.size ≤ g → u.heap[g]? = some z → wpList P l.toArray Q (l.drop (n + 1)) (A.put (some d) (.pointer (some ⟨g, 0, none⟩))) u) : (Code.region id l.toArray true).wp P Q a w := by
  obtain ⟨e1, e2, e3⟩ := puts_same (l.take n) vs a
  rw [hA] at e1 e2 e3
  refine region_new n d A z hm hB hon hdn hgn hdA e1.symm e2.symm (fun t h1 _ => (e3 t fun o ho => ?_).symm) (fun j o hj ho u hu t ht => ?_) hnew h
  · obtain ⟨j, hj, e⟩ := List.mem_iff_getElem.1 ho
    have hjn : j < n := by simp at hj; omega
    exact h1 j o hjn (by rw [← e]; simp)
  · have := wpEach_at hop j o (by rw [List.getElem?_take_of_lt hj]; exact ho) u hu
    rw [ht] at this
    refine ⟨this, ?_⟩
    have h2 := List.all_eq_true.1 hI o (List.mem_iff_getElem?.2 ⟨j, by rw [List.getElem?_take_of_lt hj]; exact ho⟩)
    rw [ht] at h2
    simpa using h2
end
end Go.Proofs.YtaalbkmdmocdeaaDoor
