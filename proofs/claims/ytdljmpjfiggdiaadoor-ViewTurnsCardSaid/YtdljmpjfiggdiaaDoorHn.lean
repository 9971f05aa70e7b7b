/- A statement that draws its order and makes new struct variables out of what it reads and calls: one walk, in the text's order, of all but the variables. No function of the program is named here. -/
import Derived.Test.YtdljmpjfiggdiaaDoorK5b
namespace Go.Proofs.YtdljmpjfiggdiaaDoor
open Go

/-- the operations but the 2m from the n-th on -/
def qi (n m j : Nat) : Bool := decide (j < n) || decide (n + 2 * m ≤ j)
def qlist (l : List Oper) (n m : Nat) : List Oper := l.take n ++ l.drop (n + 2 * m)
/-- each writes a slot of its own, behind those that read it -/
def goodB : List Oper → Bool
  | [] => true
  | o :: r => o.guard.isNone && (match o.dst with | some t => r.all fun p => p.dst != some t | none => false) &&
      (o.op.operands.toList.all fun x => match x with | .tmp t => (o :: r).all fun p => p.dst != some t | _ => true) && goodB r
def dstB (l : List Oper) (z : Nat) : Bool := l.all fun o => match o.dst with | some t => decide (t < z) | none => true
theorem getE_set_self {ts : Array Value} {t : Nat} (h : t < ts.size) (v : Value) : (ts.setIfInBounds t v)[t]? = some v := by
  rw [Array.getElem?_setIfInBounds_self]; simp [h]
section
variable {P : Program}
/-- a walk in the text's order tells each operation in the frame that all leave -/
theorem walk_each {ops : Array Oper} {u : World} {A : Act} (hsel : ∀ (o : Oper), o ∈ ops → ∀ cs b, o.op ≠ .select cs b) : ∀ (r : List Oper) (a : Act), (∀ o ∈ r, o ∈ ops) → goodB r = true → dstB r a.tmps.size = true → wpQuiet P ops (Cl u) (fun a' => a' = A) r a →
    (A.tmps.size = a.tmps.size ∧ A.defers = a.defers ∧ ∀ t, (∀ o ∈ r, o.dst ≠ some t) → A.tmps[t]? = a.tmps[t]?) ∧
    ∀ o ∈ r, ∀ t, o.dst = some t → o.quietAt P A (fun v => Still u v) u (A.tmps.getD t undef) ∧ t < A.tmps.size
  | [], a, _, _, _, h => by
    obtain rfl : a = A := h
    exact ⟨⟨rfl, rfl, fun _ _ => rfl⟩, fun o ho => by cases ho⟩
  | o :: r, a, hin, hg, hd, h => by
    unfold goodB at hg
    simp only [Bool.and_eq_true] at hg
    obtain ⟨⟨⟨g1, g2⟩, g3⟩, g4⟩ := hg
    have hgn : o.guard = none := by simpa using g1
    unfold wpQuiet at h
    rw [if_pos (by unfold Region.wanted; rw [hgn])] at h
    obtain ⟨v, hq, hr⟩ := h
    obtain ⟨t0, ht0⟩ : ∃ t, o.dst = some t := by
      cases e : o.dst with
      | none => rw [e] at g2; cases g2
      | some t => exact ⟨t, rfl⟩
    rw [ht0] at g2
    have hlt : t0 < a.tmps.size := by
      have := List.all_eq_true.1 hd o (List.mem_cons_self ..)
      rw [ht0] at this
      simpa using this
    have hsz : (a.put o.dst v).tmps.size = a.tmps.size := by simp [Act.put, ht0]
    have hdr : dstB r (a.put o.dst v).tmps.size = true := by
      rw [hsz]
      exact List.all_eq_true.2 fun p hp => List.all_eq_true.1 hd p (List.mem_cons_of_mem _ hp)
    obtain ⟨⟨i1, i2, i3⟩, i4⟩ := walk_each hsel r (a.put o.dst v) (fun p hp => hin p (List.mem_cons_of_mem _ hp)) g4 hdr hr
    have hA : ∀ t, (∀ p ∈ o :: r, p.dst ≠ some t) → A.tmps[t]? = a.tmps[t]? := fun t ht => by
      rw [i3 t fun p hp => ht p (List.mem_cons_of_mem _ hp)]
      have hne : t0 ≠ t := fun e => ht o (List.mem_cons_self ..) (by rw [ht0, e])
      simp only [Act.put, ht0, Array.getElem?_setIfInBounds_ne hne]
    refine ⟨⟨i1.trans hsz, i2.trans (by simp [Act.put, ht0]), hA⟩, fun p hp t ht => ?_⟩
    rcases List.mem_cons.1 hp with rfl | hp
    · obtain rfl : t0 = t := Option.some.inj (ht0.symm.trans ht)
      have hv : A.tmps[t0]? = some v := by
        rw [i3 t0 fun q hq' => by simpa using List.all_eq_true.1 g2 q hq']
        simp only [Act.put, ht0]
        exact getE_set_self hlt v
      have hcong : execOp A.eval p = execOp a.eval p := execOp_congr p (fun cs b => hsel p (hin p (List.mem_cons_self ..)) cs b) fun x hx => by
        cases x with
        | tmp s =>
          refine tmps_eval (hA s fun q hq' => ?_)
          have := List.all_eq_true.1 g3 (.tmp s) (by simpa using hx)
          simpa using List.all_eq_true.1 this q hq'
        | const v => rfl
        | global g => rfl
        | func f => rfl
      have h1 := hq u ⟨⟨u, Fr.refl _ _⟩, rfl⟩
      have e : (fun v => Still u v) = Cl u := funext fun w' => propext ⟨fun hs => ⟨⟨w', hs⟩, rfl⟩, fun ⟨z, e⟩ => e ▸ z.s⟩
      refine ⟨?_, by rw [i1, hsz]; exact hlt⟩
      unfold Oper.quietAt at h1 ⊢
      rw [hcong, e, Array.getD_eq_getD_getElem?, hv]
      exact h1
    · exact i4 p hp t ht
end
/-- each waits for earlier ones alone -/
def lowK (l : List Oper) : Bool := (List.range l.length).all fun i => match l.toArray[i]? with | some o => o.after.all fun e => !Region.binds .any e || decide (e.on < i) | none => false
theorem lowK_spec {l : List Oper} (h : lowK l = true) {i : Nat} {o : Oper} (hi : i < l.length) (ho : l.toArray[i]? = some o) : ∀ e ∈ o.after, Region.binds .any e = true → e.on < i := fun e he hb => by
  have h1 := List.all_eq_true.1 h i (List.mem_range.2 hi)
  simp only [ho] at h1
  have := Array.all_eq_true'.1 h1 e he
  simpa [hb] using this
/-- what the kernel looks at -/
def mkB (l : List Oper) (n m : Nat) (ds : List Nat) : Bool :=
  Region.noSelect l.toArray && lowK l && decide (n + 2 * m ≤ l.length) && decide ds.Nodup && decide (ds.length = m) && goodB (qlist l n m) &&
  (List.range l.length).all fun j => match l.toArray[j]? with
    | some o => o.guard.isNone && (if qi n m j then
          (match o.dst with | some t => !ds.contains t | none => false) &&
          ((List.range l.length).all fun i => (i == j) || !qi n m i || (match l.toArray[i]? with | some p => p.dst != o.dst | none => false)) &&
          (o.op.operands.toList.all fun x => match x with
            | .tmp t => !ds.contains t && (List.range l.length).all fun i => !qi n m i || (match l.toArray[i]? with | some p => (p.dst != some t) || o.after.any fun e => e.on == i && Region.binds .any e | none => false)
            | _ => true)
        else if j < n + m then o.dst == some (ds.getD (j - n) 0)
        else o.dst == none && (o.after.any fun e => e.on == j - m && Region.binds .any e) &&
          (o.op.operands.toList.all fun x => match x with
            | .tmp t => (t == ds.getD (j - n - m) 0) || (!ds.contains t && (List.range l.length).all fun i => !qi n m i || (match l.toArray[i]? with | some p => (p.dst != some t) || o.after.any fun e => e.on == i && Region.binds .any e | none => false))
            | _ => true))
    | none => false
section
variable {P : Program} {W : World} {l : List Oper} {n m : Nat} {ds : List Nat} {A : Act} {zs zs' : Nat → Obj}
structure MidK (l : List Oper) (n m : Nat) (ds : List Nat) (A : Act) (W : World) (zs zs' : Nat → Obj) (L : Array Bool) (a : Act) (w : World) (γ : Nat → Nat) : Prop where
  still : Still W w
  size : a.tmps.size = A.tmps.size
  defers : a.defers = A.defers
  rest : ∀ t, (∀ j o, qi n m j = true → l[j]? = some o → o.dst ≠ some t) → t ∉ ds → a.tmps[t]? = A.tmps[t]?
  done : ∀ j o t, qi n m j = true → l[j]? = some o → o.dst = some t → L.getD j true = true → j < l.length → a.tmps[t]? = A.tmps[t]?
  new : ∀ k, k < m → L.getD (n + k) true = true → a.tmps[ds.getD k 0]? = some (.pointer (some ⟨γ k, 0, none⟩)) ∧ W.heap.size ≤ γ k ∧ w.heap[γ k]? = some (if L.getD (n + m + k) true then zs' k else zs k)
  inj : ∀ k j, k < m → j < m → L.getD (n + k) true = true → L.getD (n + j) true = true → γ k = γ j → k = j
  ord : ∀ k, k < m → L.getD (n + m + k) true = true → L.getD (n + k) true = true
theorem qi_false {n m j : Nat} : qi n m j = false ↔ n ≤ j ∧ j < n + 2 * m := by unfold qi; simp
theorem any_mk {Q' : Exit → Act → World → Prop} (hB : mkB l n m ds = true) (hdA : ∀ d ∈ ds, d < A.tmps.size)
    (hop : ∀ j o, qi n m j = true → l[j]? = some o → ∀ w, Still W w → ∀ t, o.dst = some t → o.quietAt P A (fun u => Still w u) w (A.tmps.getD t undef) ∧ t < A.tmps.size)
    (hnew : ∀ k o, k < m → l[n + k]? = some o → ∀ w, Still W w → ∀ a : Act, (execOp a.eval o).run P w = .ok (.value (.pointer (some ⟨w.heap.size, 0, none⟩))) (w.alloc (zs k)))
    (hz : ∀ (k : Nat) (w : World), k < m → (w.alloc (zs k)).heap[w.heap.size]? = some (zs k))
    (hst : ∀ k o, k < m → l[n + m + k]? = some o → ∀ u g, u.heap[g]? = some (zs k) → ∃ u', (execOp (A.put (some (ds.getD k 0)) (.pointer (some ⟨g, 0, none⟩))).eval o).run P u = .ok .skip u' ∧ u'.heap[g]? = some (zs' k) ∧ Fr (fun i => i = g) u u')
    (hdone : ∀ (L : Array Bool) a w γ, (∀ i, i < l.length → L.getD i true = true) → MidK l n m ds A W zs zs' L a w γ → Q' .normal a w) :
    ∀ (f : Nat) (L : Array Bool) (a : Act) (w : World) (γ : Nat → Nat), L.size = l.length → cnt L l.length = f → MidK l n m ds A W zs zs' L a w γ → wpAny P .any l.toArray Q' f L a w
  | 0, L, a, w, γ, hLs, hcnt, hm => by
    refine ⟨?_, hdone L a w γ (cnt_zero hcnt) hm⟩
    rw [List.eq_nil_iff_forall_not_mem]
    intro j hj
    obtain ⟨hju, o, ho, _⟩ := mem_ready.1 hj
    have hjl : j < l.length := by have := (Array.getElem?_eq_some_iff.1 ho).1; simpa using this
    rw [cnt_zero hcnt j hjl] at hju
    cases hju
  | f + 1, L, a, w, γ, hLs, hcnt, hm => by
    have hB0 := hB
    unfold mkB at hB
    simp only [Bool.and_eq_true, decide_eq_true_eq] at hB
    obtain ⟨⟨⟨⟨⟨⟨hsel, hlow⟩, hnl⟩, hnd⟩, hdl⟩, _⟩, hall⟩ := hB
    obtain ⟨i, hi, hun, hmin⟩ := cnt_pos (L := L) (n := l.length) (by omega)
    refine ⟨fun h0 => ?_, fun j hj => ?_⟩
    · exfalso
      obtain ⟨o, ho⟩ : ∃ o, l.toArray[i]? = some o := ⟨_, Array.getElem?_eq_getElem (by simpa using hi)⟩
      have : i ∈ Region.ready .any l.toArray L := mem_ready.2 ⟨hun, o, ho, fun e he hb => by
        have hlt := lowK_spec hlow hi ho e he hb
        have hin : e.on < L.size := by omega
        have := hmin e.on hlt
        simp [hin] at this ⊢
        exact this⟩
      rw [h0] at this
      cases this
    · obtain ⟨hju, o, ho, hwait⟩ := mem_ready.1 hj
      have hjl : j < l.length := by have := (Array.getElem?_eq_some_iff.1 ho).1; simpa using this
      have ho' : l[j]? = some o := by simpa using ho
      have hJ := List.all_eq_true.1 hall j (List.mem_range.2 hjl)
      simp only [ho, Bool.and_eq_true] at hJ
      obtain ⟨hg0, hJ⟩ := hJ
      have hg : o.guard = none := by simpa using hg0
      have next : ∀ (a' : Act) (w' : World) (γ' : Nat → Nat), MidK l n m ds A W zs zs' (L.setIfInBounds j true) a' w' γ' → wpAny P .any l.toArray Q' f (L.setIfInBounds j true) a' w' := fun a' w' γ' hm' =>
        any_mk hB0 hdA hop hnew hz hst hdone f _ a' w' γ' (by simp [hLs]) (by have := cnt_set hju hjl; omega) hm'
      have hset : ∀ k, k ≠ j → (L.setIfInBounds j true).getD k true = L.getD k true := fun k hk => getD_set_ne true (Ne.symm hk)
      have hself : (L.setIfInBounds j true).getD j true = true := by simp [show j < L.size by omega]
      have hd0 : ∀ k, k < m → ds.getD k 0 ∈ ds := fun k hk => by
        rw [List.getD_eq_getElem?_getD, List.getElem?_eq_getElem (by omega)]
        exact List.getElem_mem _
      unfold wpOp
      simp only [ho]
      rw [if_pos (by unfold Region.wanted; rw [hg])]
      refine .inl ?_
      by_cases hq : qi n m j = true
      · rw [if_pos hq] at hJ
        simp only [Bool.and_eq_true] at hJ
        obtain ⟨⟨h2, h3⟩, h4⟩ := hJ
        obtain ⟨t, ht⟩ : ∃ t, o.dst = some t := by
          cases e : o.dst with
          | none => rw [e] at h2; cases h2
          | some t => exact ⟨t, rfl⟩
        rw [ht] at h2
        have htd : t ∉ ds := by simpa using h2
        have hcong : execOp a.eval o = execOp A.eval o := execOp_congr o (fun cs b => Region.noSelect_spec hsel j o cs b ho) fun x hx => by
          cases x with
          | tmp s =>
            have h5 := List.all_eq_true.1 h4 (.tmp s) (by simpa using hx)
            simp only [Bool.and_eq_true] at h5
            have hsd : s ∉ ds := by simpa using h5.1
            refine tmps_eval ?_
            by_cases hex : ∃ k p, qi n m k = true ∧ l[k]? = some p ∧ p.dst = some s
            · obtain ⟨k, p, hk, hp, hps⟩ := hex
              have hkl : k < l.length := (List.getElem?_eq_some_iff.1 hp).1
              have h6 := List.all_eq_true.1 h5.2 k (List.mem_range.2 hkl)
              have hp' : l.toArray[k]? = some p := by simpa using hp
              simp only [hp', hk, Bool.not_true, Bool.false_or, Bool.or_eq_true] at h6
              rcases h6 with h6 | h6
              · rw [hps] at h6; simp at h6
              · obtain ⟨e, he, hb⟩ := Array.any_eq_true'.1 h6
                simp only [Bool.and_eq_true, beq_iff_eq] at hb
                have := hwait e he hb.2
                rw [hb.1] at this
                exact hm.done k p s hk hp hps (getD_true_false (by omega) this) hkl
            · exact hm.rest s (fun k p hk hp hps => hex ⟨k, p, hk, hp, hps⟩) hsd
          | const v => rfl
          | global g => rfl
          | func f => rfl
        obtain ⟨hqa, hta⟩ := hop j o hq ho' w hm.still t ht
        have hq' : o.quietAt P a (fun u => Still w u) w (A.tmps.getD t undef) := by
          unfold Oper.quietAt at hqa ⊢
          rw [hcong]
          exact hqa
        have hnj : ∀ k, k < 2 * m → n + k ≠ j := fun k hk e => by
          have := (qi_false (n := n) (m := m) (j := j)).2 ⟨by omega, by omega⟩
          rw [hq] at this; cases this
        refine wp_of_at hq' fun w' hw' => next _ _ γ ⟨hm.still.trans hw', by simp [Act.put, ht, hm.size], by simp [Act.put, ht, hm.defers], fun s h1 h2 => ?_, fun k p s hk hp hps hl hkl => ?_, fun k hk hl => ?_, fun k k' hk hk' hl hl' => ?_, fun k hk hl => ?_⟩
        · have hne : t ≠ s := fun e => h1 j o hq ho' (by rw [ht, e])
          simp only [Act.put, ht, Array.getElem?_setIfInBounds_ne hne]
          exact hm.rest s h1 h2
        · by_cases hkj : k = j
          · subst hkj
            obtain rfl : o = p := Option.some.inj (ho'.symm.trans hp)
            obtain rfl : t = s := Option.some.inj (ht.symm.trans hps)
            simp only [Act.put, ht]
            rw [getE_set_self (by rw [hm.size]; exact hta)]
            simp [hta]
          · have h5 := List.all_eq_true.1 h3 k (List.mem_range.2 hkl)
            have hp' : l.toArray[k]? = some p := by simpa using hp
            have hkj' : (k == j) = false := by simpa using hkj
            simp only [hp', hk, hkj', Bool.not_true, Bool.or_false, Bool.false_or, bne_iff_ne] at h5
            have hne : t ≠ s := fun e => h5 (by rw [hps, ht, e])
            rw [hset k hkj] at hl
            simp only [Act.put, ht, Array.getElem?_setIfInBounds_ne hne]
            exact hm.done k p s hk hp hps hl hkl
        · rw [hset _ (hnj k (by omega))] at hl
          rw [hset _ (by have := hnj (m + k) (by omega); omega)]
          obtain ⟨n1, n2, n3⟩ := hm.new k hk hl
          have hne : t ≠ ds.getD k 0 := fun e => htd (by rw [e]; exact hd0 k hk)
          refine ⟨?_, n2, hw'.kept_still n3⟩
          simp only [Act.put, ht, Array.getElem?_setIfInBounds_ne hne]
          exact n1
        · rw [hset _ (hnj k (by omega))] at hl
          rw [hset _ (hnj k' (by omega))] at hl'
          exact hm.inj k k' hk hk' hl hl'
        · rw [hset _ (by have := hnj (m + k) (by omega); omega)] at hl
          rw [hset _ (hnj k (by omega))]
          exact hm.ord k hk hl
      · have hqf : qi n m j = false := by simpa using hq
        obtain ⟨hj1, hj2⟩ := qi_false.1 hqf
        rw [if_neg hq] at hJ
        have hqd : ∀ i p t, qi n m i = true → l[i]? = some p → p.dst = some t → t ∉ ds := fun i p t hi hp hpt => by
          have hil : i < l.length := (List.getElem?_eq_some_iff.1 hp).1
          have h1 := List.all_eq_true.1 hall i (List.mem_range.2 hil)
          have hp' : l.toArray[i]? = some p := by simpa using hp
          simp only [hp', Bool.and_eq_true] at h1
          have h2 := h1.2
          rw [if_pos hi] at h2
          simp only [Bool.and_eq_true, hpt] at h2
          simpa using h2.1.1
        have hdne : ∀ k k', k < m → k' < m → k ≠ k' → ds.getD k 0 ≠ ds.getD k' 0 := fun k k' hk hk' hne e => by
          rw [List.getD_eq_getElem?_getD, List.getD_eq_getElem?_getD, List.getElem?_eq_getElem (by omega), List.getElem?_eq_getElem (by omega)] at e
          simp only [Option.getD_some] at e
          rcases Nat.lt_or_gt_of_ne hne with h | h
          · exact List.pairwise_iff_getElem.1 hnd k k' (by omega) (by omega) h e
          · exact List.pairwise_iff_getElem.1 hnd k' k (by omega) (by omega) h e.symm
        have hqj : ∀ i, qi n m i = true → i ≠ j := fun i hi e => by rw [e, hqf] at hi; cases hi
        by_cases hjm : j < n + m
        · -- a variable is laid
          rw [if_pos hjm] at hJ
          obtain ⟨k, rfl⟩ : ∃ k, j = n + k := ⟨j - n, by omega⟩
          rw [show n + k - n = k by omega] at hJ
          have hdk : o.dst = some (ds.getD k 0) := by simpa using hJ
          have hk : k < m := by omega
          have hdA' : ds.getD k 0 < A.tmps.size := hdA _ (hd0 k hk)
          unfold Oper.wp
          rw [hnew k o hk ho' w hm.still a, Oper.upon_value]
          have hnot : L.getD (n + m + k) true = false := by
            cases e : L.getD (n + m + k) true with
            | false => rfl
            | true => rw [hm.ord k hk e] at hju; cases hju
          refine next _ _ (fun i => if i = k then w.heap.size else γ i) ⟨hm.still.trans (Still.alloc w (zs k)), by simp [Act.put, hdk, hm.size], by simp [Act.put, hdk, hm.defers], fun s h1 h2 => ?_, fun i p s hi hp hps hl hil => ?_, fun k' hk' hl => ?_, fun k1 k2 h1 h2 l1 l2 e => ?_, fun k' hk' hl => ?_⟩
          · have hne : ds.getD k 0 ≠ s := fun e => h2 (by rw [← e]; exact hd0 k hk)
            simp only [Act.put, hdk, Array.getElem?_setIfInBounds_ne hne]
            exact hm.rest s h1 h2
          · have hne : ds.getD k 0 ≠ s := fun e => hqd i p s hi hp hps (by rw [← e]; exact hd0 k hk)
            rw [hset i (hqj i hi)] at hl
            simp only [Act.put, hdk, Array.getElem?_setIfInBounds_ne hne]
            exact hm.done i p s hi hp hps hl hil
          · by_cases hkk : k' = k
            · subst hkk
              rw [hset _ (by omega), hnot]
              refine ⟨?_, ?_, ?_⟩
              · simp only [Act.put, hdk, if_true]
                exact getE_set_self (by rw [hm.size]; exact hdA') _
              · simp only [if_true]; exact hm.still.size
              · simp only [if_true]; exact hz k' w hk
            · rw [hset _ (by omega)] at hl
              rw [hset _ (by omega)]
              obtain ⟨n1, n2, n3⟩ := hm.new k' hk' hl
              simp only [if_neg hkk]
              refine ⟨?_, n2, (Still.alloc w (zs k)).kept_still n3⟩
              simp only [Act.put, hdk, Array.getElem?_setIfInBounds_ne (hdne k k' hk hk' (Ne.symm hkk))]
              exact n1
          · have hb : ∀ i, i < m → i ≠ k → (L.setIfInBounds (n + k) true).getD (n + i) true = true → γ i ≠ w.heap.size := fun i hi hik hl => by
              rw [hset _ (by omega)] at hl
              have := (Array.getElem?_eq_some_iff.1 (hm.new i hi hl).2.2).1
              omega
            by_cases e1 : k1 = k
            · by_cases e2 : k2 = k
              · rw [e1, e2]
              · simp only [e1, if_true, if_neg e2] at e
                exact absurd e.symm (hb k2 h2 e2 l2)
            · by_cases e2 : k2 = k
              · simp only [e2, if_true, if_neg e1] at e
                exact absurd e (hb k1 h1 e1 l1)
              · simp only [if_neg e1, if_neg e2] at e
                rw [hset _ (by omega)] at l1 l2
                exact hm.inj k1 k2 h1 h2 l1 l2 e
          · rw [hset _ (by omega)] at hl
            by_cases hkk : k' = k
            · subst hkk; exact hself
            · rw [hset _ (by omega)]; exact hm.ord k' hk' hl
        · -- a variable is filled
          rw [if_neg hjm] at hJ
          obtain ⟨k, rfl⟩ : ∃ k, j = n + m + k := ⟨j - (n + m), by omega⟩
          rw [show n + m + k - m = n + k by omega, show n + m + k - n - m = k by omega] at hJ
          simp only [Bool.and_eq_true] at hJ
          obtain ⟨⟨h1, h2⟩, h3⟩ := hJ
          have hdo : o.dst = none := by simpa using h1
          have hk : k < m := by omega
          have hdA' : ds.getD k 0 < A.tmps.size := hdA _ (hd0 k hk)
          have hlk : L.getD (n + k) true = true := by
            obtain ⟨e, he, hb⟩ := Array.any_eq_true'.1 h2
            simp only [Bool.and_eq_true, beq_iff_eq] at hb
            have := hwait e he hb.2
            rw [hb.1] at this
            exact getD_true_false (by omega) this
          obtain ⟨n1, n2, n3⟩ := hm.new k hk hlk
          rw [hju] at n3
          obtain ⟨u', hrun, hu1, hu2⟩ := hst k o hk ho' w (γ k) (by simpa using n3)
          have hcong : execOp a.eval o = execOp (A.put (some (ds.getD k 0)) (.pointer (some ⟨γ k, 0, none⟩))).eval o := execOp_congr o (fun cs b => Region.noSelect_spec hsel _ o cs b ho) fun x hx => by
            cases x with
            | tmp s =>
              refine tmps_eval ?_
              by_cases hsd : s = ds.getD k 0
              · subst hsd
                rw [n1]
                simp only [Act.put]
                rw [getE_set_self hdA']
              · simp only [Act.put, Array.getElem?_setIfInBounds_ne (Ne.symm hsd)]
                have h5 := List.all_eq_true.1 h3 (.tmp s) (by simpa using hx)
                have hsd' : (s == ds.getD k 0) = false := by simpa using hsd
                simp only [hsd', Bool.false_or, Bool.and_eq_true] at h5
                have hsn : s ∉ ds := by simpa using h5.1
                by_cases hex : ∃ i p, qi n m i = true ∧ l[i]? = some p ∧ p.dst = some s
                · obtain ⟨i, p, hi, hp, hps⟩ := hex
                  have hil : i < l.length := (List.getElem?_eq_some_iff.1 hp).1
                  have h6 := List.all_eq_true.1 h5.2 i (List.mem_range.2 hil)
                  have hp' : l.toArray[i]? = some p := by simpa using hp
                  simp only [hp', hi, Bool.not_true, Bool.false_or, Bool.or_eq_true] at h6
                  rcases h6 with h6 | h6
                  · rw [hps] at h6; simp at h6
                  · obtain ⟨e, he, hb⟩ := Array.any_eq_true'.1 h6
                    simp only [Bool.and_eq_true, beq_iff_eq] at hb
                    have := hwait e he hb.2
                    rw [hb.1] at this
                    exact hm.done i p s hi hp hps (getD_true_false (by omega) this) hil
                · exact hm.rest s (fun i p hi hp hps => hex ⟨i, p, hi, hp, hps⟩) hsn
            | const v => rfl
            | global g => rfl
            | func f => rfl
          unfold Oper.wp
          rw [hcong, hrun, Oper.upon_skip, hdo]
          refine next _ _ γ ⟨Fr.trans hm.still hu2 (fun i hi e => by omega), hm.size, hm.defers, hm.rest, fun i p s hi hp hps hl hil => ?_, fun k' hk' hl => ?_, fun k1 k2 h1 h2 l1 l2 e => ?_, fun k' hk' hl => ?_⟩
          · rw [hset i (hqj i hi)] at hl
            exact hm.done i p s hi hp hps hl hil
          · rw [hset _ (by omega)] at hl
            obtain ⟨m1, m2, m3⟩ := hm.new k' hk' hl
            by_cases hkk : k' = k
            · subst hkk
              exact ⟨m1, m2, by rw [hself]; exact hu1⟩
            · rw [hset _ (by omega)]
              exact ⟨m1, m2, hu2.kept m3 (fun e => hkk (hm.inj k' k hk' hk hl hlk e))⟩
          · rw [hset _ (by omega)] at l1 l2
            exact hm.inj k1 k2 h1 h2 l1 l2 e
          · rw [hset _ (by omega)]
            by_cases hkk : k' = k
            · subst hkk; exact hlk
            · rw [hset _ (by omega)] at hl
              exact hm.ord k' hk' hl
/-- In whatever order: all operations but those that lay and fill the new variables are walked once, in the text's order. -/
theorem region_mk {id : Nat} {Q : Exit → Act → World → Prop} {a : Act} {w : World} (n m : Nat) (ds : List Nat) (zs zs' : Nat → Obj) (hm : P.follows .mixedOrders = true) (hB : mkB l n m ds = true) (hdB : dstB (qlist l n m) a.tmps.size = true) (hdd : (ds.all fun d => decide (d < a.tmps.size)) = true)
    (hnew : ∀ k o, k < m → l[n + k]? = some o → ∀ w, ∀ a : Act, (execOp a.eval o).run P w = .ok (.value (.pointer (some ⟨w.heap.size, 0, none⟩))) (w.alloc (zs k)))
    (hz : ∀ (k : Nat) (w : World), k < m → (w.alloc (zs k)).heap[w.heap.size]? = some (zs k))
    (h : ∃ A, (∀ u, Still w u → wpQuiet P l.toArray (fun w' => ∃ z : Aft u, w' = z.u) (fun a' => a' = A) (qlist l n m) a) ∧
      (∀ k o, k < m → l[n + m + k]? = some o → ∀ u g, u.heap[g]? = some (zs k) → ∃ u', (execOp (A.put (some (ds.getD k 0)) (.pointer (some ⟨g, 0, none⟩))).eval o).run P u = .ok .skip u' ∧ u'.heap[g]? = some (zs' k) ∧ Fr (fun i => i = g) u u') ∧
      ∀ (u : World) (γ : Nat → Nat), Still w u → (∀ k, k < m → w.heap.size ≤ γ k ∧ u.heap[γ k]? = some (zs' k)) → (∀ k j, k < m → j < m → γ k = γ j → k = j) → Q .normal ((List.range m).foldl (fun a k => a.put (some (ds.getD k 0)) (.pointer (some ⟨γ k, 0, none⟩))) A) u) :
    (Code.region id l.toArray true).wp P Q a w := by
  obtain ⟨A, hwalk, hst, hpost⟩ := h
  have hB0 := hB
  unfold mkB at hB
  simp only [Bool.and_eq_true, decide_eq_true_eq] at hB
  obtain ⟨⟨⟨⟨⟨⟨hsel, hlow⟩, hnl⟩, hnd⟩, hdl⟩, hgood⟩, hall⟩ := hB
  have hin : ∀ o ∈ qlist l n m, o ∈ l.toArray := fun o ho => by
    unfold qlist at ho
    rcases List.mem_append.1 ho with ho | ho
    · simpa using List.mem_of_mem_take ho
    · simpa using List.mem_of_mem_drop ho
  have hsel' : ∀ o ∈ l.toArray, ∀ cs b, o.op ≠ .select cs b := fun o ho cs b => by
    obtain ⟨i, hi, e⟩ := Array.mem_iff_getElem.1 ho
    exact Region.noSelect_spec hsel i o cs b (by rw [Array.getElem?_eq_getElem hi, e])
  have hmem : ∀ j o, qi n m j = true → l[j]? = some o → o ∈ qlist l n m := fun j o hj ho => by
    unfold qlist
    unfold qi at hj
    simp only [Bool.or_eq_true, decide_eq_true_eq] at hj
    obtain ⟨hjl, e⟩ := List.getElem?_eq_some_iff.1 ho
    rcases hj with hj | hj
    · exact List.mem_append_left _ (List.mem_iff_getElem?.2 ⟨j, by rw [List.getElem?_take_of_lt hj]; exact ho⟩)
    · refine List.mem_append_right _ (List.mem_iff_getElem?.2 ⟨j - (n + 2 * m), ?_⟩)
      rw [List.getElem?_drop, show n + 2 * m + (j - (n + 2 * m)) = j by omega]
      exact ho
  obtain ⟨⟨e1, e2, e3⟩, _⟩ := walk_each hsel' (qlist l n m) a hin hgood hdB (hwalk w (Fr.refl _ _))
  have hdA : ∀ d ∈ ds, d < A.tmps.size := fun d hd => by rw [e1]; simpa using List.all_eq_true.1 hdd d hd
  refine wp_region_any hm ?_
  have hst0 : Still w { w with drawn := w.drawn + 1 } := (Fr.refl _ w).drew
  have key := any_mk (P := P) (W := w) (A := A) (zs := zs) (zs' := zs') (Q' := Q) hB0 hdA
    (fun j o hj ho u hu t ht => (walk_each hsel' (qlist l n m) a hin hgood hdB (hwalk u hu)).2 o (hmem j o hj ho) t ht) (fun k o hk ho u _ b => hnew k o hk ho u b) hz hst ?_ l.length (Array.replicate l.length false) a { w with drawn := w.drawn + 1 } (fun _ => 0) (by simp) (cnt_new (Nat.le_refl _))
    ⟨hst0, e1.symm, e2.symm, fun t h1 _ => ((e3 t fun o ho => ?_)).symm, fun j o t _ _ _ hl hjl => (by simp [hjl] at hl), fun k hk hl => (by simp [show n + k < l.length by omega] at hl), fun k j hk _ hl => (by simp [show n + k < l.length by omega] at hl), fun k hk hl => (by simp [show n + m + k < l.length by omega] at hl)⟩
  · simpa using key
  · intro L a' w' γ hL hm'
    have hnews := fun k (hk : k < m) => hm'.new k hk (hL _ (by omega))
    have hall2 : ∀ k, k < m → L.getD (n + m + k) true = true := fun k hk => hL _ (by omega)
    have ea : a' = (List.range m).foldl (fun a k => a.put (some (ds.getD k 0)) (.pointer (some ⟨γ k, 0, none⟩))) A := by
      have fold : ∀ (r : Nat), r ≤ m → ((List.range r).foldl (fun a k => a.put (some (ds.getD k 0)) (.pointer (some ⟨γ k, 0, none⟩))) A).tmps.size = A.tmps.size ∧ ((List.range r).foldl (fun a k => a.put (some (ds.getD k 0)) (.pointer (some ⟨γ k, 0, none⟩))) A).defers = A.defers ∧
          (∀ t, (∀ k, k < r → t ≠ ds.getD k 0) → ((List.range r).foldl (fun a k => a.put (some (ds.getD k 0)) (.pointer (some ⟨γ k, 0, none⟩))) A).tmps[t]? = A.tmps[t]?) ∧
          (∀ k, k < r → ((List.range r).foldl (fun a k => a.put (some (ds.getD k 0)) (.pointer (some ⟨γ k, 0, none⟩))) A).tmps[ds.getD k 0]? = some (.pointer (some ⟨γ k, 0, none⟩))) := by
        intro r
        induction r with
        | zero => intro _; exact ⟨rfl, rfl, fun _ _ => rfl, fun k hk => by omega⟩
        | succ r ih =>
          intro hr
          obtain ⟨f1, f2, f3, f4⟩ := ih (by omega)
          have hdr : ds.getD r 0 ∈ ds := by
            rw [List.getD_eq_getElem?_getD, List.getElem?_eq_getElem (by omega)]
            exact List.getElem_mem _
          rw [List.range_succ, List.foldl_append]
          obtain ⟨B, eB⟩ : ∃ B, (List.range r).foldl (fun a k => a.put (some (ds.getD k 0)) (.pointer (some ⟨γ k, 0, none⟩))) A = B := ⟨_, rfl⟩
          rw [eB] at f1 f2 f3 f4 ⊢
          simp only [List.foldl_cons, List.foldl_nil]
          refine ⟨by simp [Act.put, f1], by simp [Act.put, f2], fun t ht => ?_, fun k hk => ?_⟩
          · simp only [Act.put, Array.getElem?_setIfInBounds_ne (Ne.symm (ht r (by omega)))]
            exact f3 t fun k hk => ht k (by omega)
          · by_cases hkr : k = r
            · subst hkr
              simp only [Act.put]
              exact getE_set_self (by rw [f1]; exact hdA _ hdr) _
            · have hne : ds.getD r 0 ≠ ds.getD k 0 := fun e => by
                rw [List.getD_eq_getElem?_getD, List.getD_eq_getElem?_getD, List.getElem?_eq_getElem (by omega), List.getElem?_eq_getElem (by omega)] at e
                simp only [Option.getD_some] at e
                exact List.pairwise_iff_getElem.1 hnd k r (by omega) (by omega) (by omega) e.symm
              simp only [Act.put, Array.getElem?_setIfInBounds_ne hne]
              exact f4 k (by omega)
      obtain ⟨f1, f2, f3, f4⟩ := fold m (Nat.le_refl _)
      obtain ⟨B, eB⟩ : ∃ B, (List.range m).foldl (fun a k => a.put (some (ds.getD k 0)) (.pointer (some ⟨γ k, 0, none⟩))) A = B := ⟨_, rfl⟩
      rw [eB] at f1 f2 f3 f4 ⊢
      obtain ⟨ts, df⟩ := a'
      obtain ⟨Ts, Df⟩ := B
      have g1 : df = Df := hm'.defers.trans f2.symm
      have g2 : ts = Ts := by
        apply Array.ext_getElem?
        intro t
        by_cases htd : t ∈ ds
        · obtain ⟨k, hk, e⟩ := List.mem_iff_getElem.1 htd
          have e' : ds.getD k 0 = t := by rw [List.getD_eq_getElem?_getD, List.getElem?_eq_getElem hk]; exact e
          have := (hnews k (by omega)).1
          rw [e'] at this
          have h4 := f4 k (by omega)
          rw [e'] at h4
          rw [this, h4]
        · rw [f3 t fun k hk e => htd (by
            rw [e, List.getD_eq_getElem?_getD, List.getElem?_eq_getElem (by omega)]
            exact List.getElem_mem _)]
          by_cases hex : ∃ i p, qi n m i = true ∧ l[i]? = some p ∧ p.dst = some t
          · obtain ⟨i, p, hi, hp, hpt⟩ := hex
            have hil : i < l.length := (List.getElem?_eq_some_iff.1 hp).1
            exact hm'.done i p t hi hp hpt (hL i hil) hil
          · exact hm'.rest t (fun i p hi hp hpt => hex ⟨i, p, hi, hp, hpt⟩) htd
      rw [g1, g2]
    rw [ea]
    exact hpost w' γ hm'.still (fun k hk => ⟨(hnews k hk).2.1, by have := (hnews k hk).2.2; rwa [hall2 k hk, if_pos rfl] at this⟩) (fun k j hk hj e => hm'.inj k j hk hj (hL _ (by omega)) (hL _ (by omega)) e)
  · intro e
    have : ∃ i, qi n m i = true ∧ l[i]? = some o := by
      unfold qlist at ho
      rcases List.mem_append.1 ho with ho | ho
      · obtain ⟨i, hi, e⟩ := List.mem_iff_getElem.1 ho
        have hin' : i < n := by simp at hi; omega
        exact ⟨i, by unfold qi; simp; omega, by rw [← List.getElem?_take_of_lt hin', List.getElem?_eq_getElem hi, e]⟩
      · obtain ⟨i, hi, e⟩ := List.mem_iff_getElem.1 ho
        exact ⟨n + 2 * m + i, by unfold qi; simp, by rw [← List.getElem?_drop, List.getElem?_eq_getElem hi, e]⟩
    obtain ⟨i, hi, hoi⟩ := this
    exact h1 i o hi hoi e
/-- one new variable -/
theorem region_mk1 {id : Nat} {Q : Exit → Act → World → Prop} {a : Act} {w : World} {on os : Oper} (n d : Nat) (z z' : Obj) (hm : P.follows .mixedOrders = true) (hB : mkB l n 1 [d] = true) (hdB : dstB (qlist l n 1) a.tmps.size = true) (hdd : decide (d < a.tmps.size) = true)
    (hon : l[n]? = some on) (hos : l[n + 1]? = some os) (hnew : ∀ (w : World) (a : Act), (execOp a.eval on).run P w = .ok (.value (.pointer (some ⟨w.heap.size, 0, none⟩))) (w.alloc z)) (hz : ∀ w : World, (w.alloc z).heap[w.heap.size]? = some z)
    (h : ∃ A, (∀ u, Still w u → wpQuiet P l.toArray (fun w' => ∃ z : Aft u, w' = z.u) (fun a' => a' = A) (qlist l n 1) a) ∧
      (∀ u g, u.heap[g]? = some z → ∃ u', (execOp (A.put (some d) (.pointer (some ⟨g, 0, none⟩))).eval os).run P u = .ok .skip u' ∧ u'.heap[g]? = some z' ∧ Fr (fun i => i = g) u u') ∧
      ∀ (u : World) (g : Nat), Still w u → w.heap.size ≤ g → u.heap[g]? = some z' → Q .normal (A.put (some d) (.pointer (some ⟨g, 0, none⟩))) u) :
    (Code.region id l.toArray true).wp P Q a w := by
  obtain ⟨A, h1, h2, h3⟩ := h
  refine region_mk n 1 [d] (fun _ => z) (fun _ => z') hm hB hdB (by simpa using hdd) (fun k o hk ho => ?_) (fun _ w _ => hz w) ⟨A, h1, fun k o hk ho => ?_, fun u γ hs hk _ => ?_⟩
  · obtain rfl : k = 0 := by omega
    obtain rfl : on = o := Option.some.inj (hon.symm.trans ho)
    exact hnew
  · obtain rfl : k = 0 := by omega
    obtain rfl : os = o := Option.some.inj (hos.symm.trans ho)
    exact h2
  · exact h3 u (γ 0) hs (hk 0 (by omega)).1 (hk 0 (by omega)).2
/-- two new variables -/
theorem region_mk2 {id : Nat} {Q : Exit → Act → World → Prop} {a : Act} {w : World} {on1 on2 os1 os2 : Oper} (n d1 d2 : Nat) (z z1 z2 : Obj) (hm : P.follows .mixedOrders = true) (hB : mkB l n 2 [d1, d2] = true) (hdB : dstB (qlist l n 2) a.tmps.size = true) (hdd : decide (d1 < a.tmps.size ∧ d2 < a.tmps.size) = true)
    (hon : l[n]? = some on1 ∧ l[n + 1]? = some on2) (hos : l[n + 2]? = some os1 ∧ l[n + 3]? = some os2)
    (hnew : ∀ (w : World) (a : Act), (execOp a.eval on1).run P w = .ok (.value (.pointer (some ⟨w.heap.size, 0, none⟩))) (w.alloc z) ∧ (execOp a.eval on2).run P w = .ok (.value (.pointer (some ⟨w.heap.size, 0, none⟩))) (w.alloc z)) (hz : ∀ w : World, (w.alloc z).heap[w.heap.size]? = some z)
    (h : ∃ A, (∀ u, Still w u → wpQuiet P l.toArray (fun w' => ∃ z : Aft u, w' = z.u) (fun a' => a' = A) (qlist l n 2) a) ∧
      (∀ u g, u.heap[g]? = some z → ∃ u', (execOp (A.put (some d1) (.pointer (some ⟨g, 0, none⟩))).eval os1).run P u = .ok .skip u' ∧ u'.heap[g]? = some z1 ∧ Fr (fun i => i = g) u u') ∧
      (∀ u g, u.heap[g]? = some z → ∃ u', (execOp (A.put (some d2) (.pointer (some ⟨g, 0, none⟩))).eval os2).run P u = .ok .skip u' ∧ u'.heap[g]? = some z2 ∧ Fr (fun i => i = g) u u') ∧
      ∀ (u : World) (g1 g2 : Nat), Still w u → w.heap.size ≤ g1 → w.heap.size ≤ g2 → g1 ≠ g2 → u.heap[g1]? = some z1 → u.heap[g2]? = some z2 → Q .normal ((A.put (some d1) (.pointer (some ⟨g1, 0, none⟩))).put (some d2) (.pointer (some ⟨g2, 0, none⟩))) u) :
    (Code.region id l.toArray true).wp P Q a w := by
  obtain ⟨A, h1, h2, h3, h4⟩ := h
  refine region_mk n 2 [d1, d2] (fun _ => z) (fun k => if k = 0 then z1 else z2) hm hB hdB (by simpa using hdd) (fun k o hk ho => ?_) (fun _ w _ => hz w) ⟨A, h1, fun k o hk ho => ?_, fun u γ hs hk hi => ?_⟩
  · by_cases e : k = 0
    · subst e
      obtain rfl : on1 = o := Option.some.inj (hon.1.symm.trans ho)
      exact fun w a => (hnew w a).1
    · obtain rfl : k = 1 := by omega
      obtain rfl : on2 = o := Option.some.inj (hon.2.symm.trans ho)
      exact fun w a => (hnew w a).2
  · by_cases e : k = 0
    · subst e
      obtain rfl : os1 = o := Option.some.inj (hos.1.symm.trans ho)
      exact h2
    · obtain rfl : k = 1 := by omega
      obtain rfl : os2 = o := Option.some.inj (hos.2.symm.trans ho)
      exact h3
  · have a0 := hk 0 (by omega)
    have a1 := hk 1 (by omega)
    exact h4 u (γ 0) (γ 1) hs a0.1 a1.1 (fun e => by have := hi 0 1 (by omega) (by omega) e; omega) a0.2 a1.2
end
end Go.Proofs.YtdljmpjfiggdiaaDoor
