/- A statement that draws its order and whose last operations come in order; some that only move values may come behind these. No function of the program is named here. -/
import Derived.Test.YtdljmpjfiggdiaaDoorHn
namespace Go.Proofs.YtdljmpjfiggdiaaDoor
open Go

/-- it moves a value: whatever the world -/
def pureB : Op → Bool
  | .move _ => true
  | .extract _ _ => true
  | _ => false
theorem pure_run {P : Program} {o : Oper} (h : pureB o.op = true) (ρ : Operand → Value) {w : World} {C : World → Prop} {v : Value} (hq : Oper.quietUpon P C w v ((execOp ρ o).run P w)) (u : World) : (execOp ρ o).run P u = .ok (.value v) u := by
  cases e : o.op <;> rw [e] at h <;> try (cases h)
  · simp only [execOp, e, Sem.run_pure, Oper.quietUpon] at hq ⊢
    rw [hq.2]
  · rename_i t ix
    simp only [execOp, e, Instr.extract] at hq ⊢
    cases e2 : ρ t <;> simp only [e2] at hq ⊢ <;> try (exact hq.elim)
    rename_i vs
    cases e3 : vs[ix]? <;> simp [e3, Oper.quietUpon] at hq ⊢
    exact hq
/-- it reads, and calls nothing -/
def plainB : Op → Bool
  | .load _ _ => true
  | .nilCheck _ => true
  | .fieldAddr _ _ _ => true
  | .indexAddr _ _ _ => true
  | _ => false
theorem plain_run {P : Program} {o : Oper} (h : plainB o.op = true) (ρ : Operand → Value) {w : World} {C : World → Prop} {v : Value} (hq : Oper.quietUpon P C w v ((execOp ρ o).run P w)) : (execOp ρ o).run P w = .ok (.value v) w := by
  have key : ∀ f args w', (execOp ρ o).run P w ≠ .ok (.enter f args) w' ∧ (execOp ρ o).run P w ≠ .ok .skip w' := fun f args w' => by
    cases e : o.op <;> rw [e] at h <;> try (cases h)
    · rename_i t a
      simp only [execOp, e, Sem.run_bind, Sem.run_pure]
      cases (Instr.loadAt t (ρ a)).run P w <;> simp [Result.andThen]
    · rename_i a
      have hb : ∀ {α : Type} (s : Sem α) (k : α → Sem Next) (w0 : World), (∀ x w1, (k x).run P w1 ≠ .ok (.enter f args) w' ∧ (k x).run P w1 ≠ .ok .skip w') → (s >>= k).run P w0 ≠ .ok (.enter f args) w' ∧ (s >>= k).run P w0 ≠ .ok .skip w' := fun s k w0 hk => by
        rw [Sem.run_bind]
        cases s.run P w0 with
        | ok x w1 => exact hk x w1
        | halt x w1 => simp [Result.andThen]
      have hv : ∀ (x : Value) w1, (pure (Next.value x) : Sem Next).run P w1 ≠ .ok (.enter f args) w' ∧ (pure (Next.value x) : Sem Next).run P w1 ≠ .ok .skip w' := fun x w1 => by simp [Sem.run_pure]
      have hp : ∀ w1, (runtimePanic RuntimeError.nilDeref : Sem Next).run P w1 ≠ .ok (.enter f args) w' ∧ (runtimePanic RuntimeError.nilDeref : Sem Next).run P w1 ≠ .ok .skip w' := fun w1 => by
        simp [runtimePanic]
      cases e2 : ρ a with
      | pointer p =>
        cases p with
        | none => simp only [execOp, e, e2]; exact hp w
        | some p => simp only [execOp, e, e2]; exact hv _ w
      | func fn first captured =>
        cases fn with
        | method name =>
          simp only [execOp, e, e2]
          split
          · exact hp w
          · refine hb _ _ _ fun x w1 => hb _ _ _ fun y w2 => ?_
            split
            · exact hb _ _ _ fun z w3 => hv _ w3
            · exact hv _ w2
          · exact hv _ w
        | _ => simp only [execOp, e, e2]; exact hv _ w
      | nilIface => simp only [execOp, e, e2]; exact hp w
      | nilFunc => simp only [execOp, e, e2]; exact hp w
      | _ => simp only [execOp, e, e2]; exact hv _ w
    · rename_i t a k
      simp only [execOp, e, Sem.run_bind, Sem.run_pure]
      cases (Instr.fieldAt t (ρ a) k).run P w <;> simp [Result.andThen]
    · rename_i t a k
      simp only [execOp, e, Sem.run_bind, Sem.run_pure]
      cases (Instr.indexAt t (ρ a) (ρ k)).run P w <;> simp [Result.andThen]
  generalize hr : (execOp ρ o).run P w = r at hq key ⊢
  cases r with
  | ok x w' =>
    cases x with
    | value u => obtain ⟨rfl, rfl⟩ := hq; rfl
    | skip => exact absurd rfl (key 0 #[] w').2
    | enter f args => exact absurd rfl (key f args w').1
    | _ => exact hq.elim
  | halt x w' => exact hq.elim
/-- operation i waits for operation j -/
def edgeB (l : List Oper) (i j : Nat) : Bool := match l.toArray[i]? with | some p => p.after.any fun e => e.on == j && Region.binds .any e | none => false
/-- operation n waits for operation j, at once or by way of others -/
def reachB (l : List Oper) (n : Nat) : Nat → Nat → Bool
  | 0, _ => false
  | f + 1, j => edgeB l n j || (List.range n).any fun i => edgeB l i j && reachB l n f i
theorem reach_done {l : List Oper} {n : Nat} {L : Array Bool} (h1 : ∀ j, edgeB l n j = true → L.getD j true = true) (h2 : ∀ i j, edgeB l i j = true → L.getD i true = true → L.getD j true = true) : ∀ f j, reachB l n f j = true → L.getD j true = true
  | 0, _, h => by cases h
  | f + 1, j, h => by
    unfold reachB at h
    rw [Bool.or_eq_true, List.any_eq_true] at h
    rcases h with h | ⟨i, _, h⟩
    · exact h1 j h
    · rw [Bool.and_eq_true] at h
      exact h2 i j h.1 (reach_done h1 h2 f i h.2)
/-- what the kernel looks at -/
def lateB (l : List Oper) (n q : Nat) : Bool :=
  Region.noSelect l.toArray && lowK l && decide (n + q < l.length ∧ q ≤ 1) && goodB (l.take n) &&
  (List.range l.length).all fun j => match l.toArray[j]? with
    | some o => o.guard.isNone && (if j < n then
          o.dst.isSome && ((List.range n).all fun i => (i == j) || (match l.toArray[i]? with | some p => p.dst != o.dst | none => false)) &&
          (o.op.operands.toList.all fun x => match x with
            | .tmp t => ((List.range l.length).all fun i => decide (i < n) || (match l.toArray[i]? with | some p => p.dst != some t || p.after.any fun e => e.on == j && Region.binds .any e | none => false)) &&
                (List.range n).all fun i => match l.toArray[i]? with | some p => (p.dst != some t) || o.after.any fun e => e.on == i && Region.binds .any e | none => false
            | _ => true) &&
          (pureB o.op || (plainB o.op && reachB l (n + q) 6 j) || reachB l n 6 j)
        else
          (j == n || o.after.any fun e => e.on == j - 1 && Region.binds .any e) &&
          (match o.dst with | some t => (List.range n).all fun i => (match l.toArray[i]? with | some p => p.dst != some t | none => false) | none => true) &&
          (o.op.operands.toList.all fun x => match x with
            | .tmp t => (List.range n).all fun i => match l.toArray[i]? with | some p => (p.dst != some t) || o.after.any fun e => e.on == i && Region.binds .any e | none => false
            | _ => true))
    | none => false
section
variable {P : Program} {W : World} {l : List Oper} {n q : Nat} {A : Act}
/-- only ended in the ordinary way -/
abbrev Nrm (Q : Exit → Act → World → Prop) : Exit → Act → World → Prop := fun e a w => e = .normal ∧ Q .normal a w
/-- where such a statement has come to: k of its last operations are done; B: what the frame will be once all that is ahead is done -/
structure MidL (P : Program) (l : List Oper) (n q : Nat) (A : Act) (W : World) (Q : Exit → Act → World → Prop) (L : Array Bool) (a : Act) (w : World) (k : Nat) (B : Act) : Prop where
  size : a.tmps.size = B.tmps.size
  defers : a.defers = B.defers
  agree : ∀ t, (∀ j o, j < n → l[j]? = some o → o.dst = some t → L.getD j true = true) → a.tmps[t]? = B.tmps[t]?
  keep : ∀ t, (∀ i o, n ≤ i → i < n + k → l[i]? = some o → o.dst ≠ some t) → B.tmps[t]? = A.tmps[t]?
  le : n + k ≤ l.length
  tail : ∀ i, n ≤ i → i < l.length → L.getD i true = decide (i < n + k)
  first : 0 < k → ∀ j o, j < n → l[j]? = some o → pureB o.op = false → plainB o.op = false → L.getD j true = true
  second : q < k → ∀ j o, j < n → l[j]? = some o → pureB o.op = false → L.getD j true = true
  zero : k = 0 → B = A
  still : k ≤ q → Still W w
  wp : 0 < k → wpList P l.toArray (Nrm Q) (l.drop (n + k)) B w
  bsize : B.tmps.size = A.tmps.size
  closed : ∀ i j, i < l.length → j < l.length → edgeB l i j = true → L.getD i true = true → L.getD j true = true
theorem upon_sim {o : Oper} {a B : Act} {K K' : Act → World → Prop} {Q : Exit → Act → World → Prop} {r : Result Next} (hK : ∀ v w, K (B.put o.dst v) w → K' (a.put o.dst v) w) (hD : ∀ d w, K ({ B with defers := d :: B.defers }.put o.dst undef) w → K' ({ a with defers := d :: a.defers }.put o.dst undef) w)
    (h : o.upon P B K (Nrm Q) r) : o.upon P a K' Q r := by
  cases r with
  | ok x w =>
    cases x with
    | value v => exact hK v w h
    | skip => exact hK undef w h
    | defer d => exact hD d w h
    | enter f args =>
      refine Calls.mono (show Calls P f args w _ from h) ?_
      intro e w2 he
      cases e with
      | returned v => exact hK v w2 he
      | panicked c => exact absurd he.1 (by simp)
      | outgrown => obtain ⟨a0, w0, h0, _⟩ := he; cases h0
    | row row args => exact Rows.mono (show Rows P row args w _ from h) fun v w2 he => hK v w2 he
    | _ => exact h.elim
  | halt x w =>
    cases x <;> first | exact h.elim | exact absurd h.1 (by simp)
theorem drop_at {j : Nat} {o : Oper} (h : l[j]? = some o) : l.drop j = o :: l.drop (j + 1) := by
  obtain ⟨hj, e⟩ := List.getElem?_eq_some_iff.1 h
  rw [← e]
  exact List.drop_eq_getElem_cons hj
theorem any_late {Q : Exit → Act → World → Prop} (hB : lateB l n q = true)
    (hS : q = 1 → ∀ o, l[n]? = some o → ∀ u, Still W u → ∃ v u', (execOp A.eval o).run P u = .ok (.value v) u' ∧ Still u u')
    (hop : ∀ j o, j < n → l[j]? = some o → ∀ w, Still W w → ∀ t, o.dst = some t → o.quietAt P A (fun u => Still w u) w (A.tmps.getD t undef) ∧ t < A.tmps.size)
    (hT : ∀ u, Still W u → wpList P l.toArray (Nrm Q) (l.drop n) A u) :
    ∀ (f : Nat) (L : Array Bool) (a : Act) (w : World) (k : Nat) (B : Act), L.size = l.length → cnt L l.length = f → MidL P l n q A W Q L a w k B → wpAny P .any l.toArray Q f L a w
  | 0, L, a, w, k, B, hLs, hcnt, hm => by
    have hall := cnt_zero hcnt
    have hB' := hB
    unfold lateB at hB'
    simp only [Bool.and_eq_true, decide_eq_true_eq] at hB'
    obtain ⟨⟨⟨_, ⟨hnl, _⟩⟩, _⟩, _⟩ := hB'
    refine ⟨?_, ?_⟩
    · rw [List.eq_nil_iff_forall_not_mem]
      intro j hj
      obtain ⟨hju, o, ho, _⟩ := mem_ready.1 hj
      have hjl : j < l.length := by have := (Array.getElem?_eq_some_iff.1 ho).1; simpa using this
      rw [hall j hjl] at hju
      cases hju
    · have hk : l.length ≤ n + k := by
        have := hm.tail (l.length - 1) (by omega) (by omega)
        rw [hall _ (by omega)] at this
        have := of_decide_eq_true this.symm
        omega
      have hw := hm.wp (by omega)
      rw [List.drop_eq_nil_of_le hk] at hw
      have e : a = B := by
        obtain ⟨ts, df⟩ := a
        obtain ⟨Ts, Df⟩ := B
        have g1 : df = Df := hm.defers
        have g2 : ts = Ts := by
          apply Array.ext_getElem?
          intro t
          exact hm.agree t fun j o hj ho _ => hall j (by omega)
        rw [g1, g2]
      rw [e]
      exact hw.2
  | f + 1, L, a, w, k, B, hLs, hcnt, hm => by
    have hB0 := hB
    unfold lateB at hB
    simp only [Bool.and_eq_true, decide_eq_true_eq] at hB
    obtain ⟨⟨⟨⟨hsel, hlow⟩, ⟨hnl, hq1⟩⟩, _⟩, hall⟩ := hB
    obtain ⟨i, hi, hun, hmin⟩ := cnt_pos (L := L) (n := l.length) (by omega)
    refine ⟨fun h0 => ?_, fun j hj => ?_⟩
    · exfalso
      obtain ⟨o, ho⟩ : ∃ o, l.toArray[i]? = some o := ⟨_, Array.getElem?_eq_getElem (by simpa using hi)⟩
      have : i ∈ Region.ready .any l.toArray L := mem_ready.2 ⟨hun, o, ho, fun e he hb => by
        have hlt := lowK_spec hlow hi ho e he hb
        have hin : e.on < L.size := by omega
        have := hmin e.on hlt
        simp [hin] at this ⊢
        exact this⟩
      rw [h0] at this
      cases this
    · obtain ⟨hju, o, ho, hwait⟩ := mem_ready.1 hj
      have hjl : j < l.length := by have := (Array.getElem?_eq_some_iff.1 ho).1; simpa using this
      have ho' : l[j]? = some o := by simpa using ho
      have hJ := List.all_eq_true.1 hall j (List.mem_range.2 hjl)
      simp only [ho, Bool.and_eq_true] at hJ
      obtain ⟨hg0, hJ⟩ := hJ
      have hg : o.guard = none := by simpa using hg0
      have next : ∀ (a' : Act) (w' : World) (k' : Nat) (B' : Act), MidL P l n q A W Q (L.setIfInBounds j true) a' w' k' B' → wpAny P .any l.toArray Q f (L.setIfInBounds j true) a' w' := fun a' w' k' B' hm' =>
        any_late hB0 hS hop hT f _ a' w' k' B' (by simp [hLs]) (by have := cnt_set hju hjl; omega) hm'
      have hset : ∀ k, k ≠ j → (L.setIfInBounds j true).getD k true = L.getD k true := fun k hk => getD_set_ne true (Ne.symm hk)
      have hself : (L.setIfInBounds j true).getD j true = true := by simp [show j < L.size by omega]
      have hcl : ∀ i j', i < l.length → j' < l.length → edgeB l i j' = true → (L.setIfInBounds j true).getD i true = true → (L.setIfInBounds j true).getD j' true = true := fun i j' hi hj' he hl => by
        by_cases e2 : j' = j
        · rw [e2]; simp [show j < L.size by omega]
        · rw [hset j' e2]
          by_cases e1 : i = j
          · subst e1
            unfold edgeB at he
            simp only [ho] at he
            obtain ⟨e, he1, hb⟩ := Array.any_eq_true'.1 he
            simp only [Bool.and_eq_true, beq_iff_eq] at hb
            have := hwait e he1 hb.2
            rw [hb.1] at this
            exact getD_true_false (by omega) this
          · rw [hset i e1] at hl
            exact hm.closed i j' hi hj' he hl
      have hmore : ∀ k, L.getD k true = true → (L.setIfInBounds j true).getD k true = true := fun k hk => by
        by_cases e : k = j
        · rw [e]; exact hself
        · rw [hset k e]; exact hk
      -- what an operation waits for is done
      have hdone : ∀ i, i < l.length → (o.after.any fun e => e.on == i && Region.binds .any e) = true → L.getD i true = true := fun i hi h => by
        obtain ⟨e, he, hb⟩ := Array.any_eq_true'.1 h
        simp only [Bool.and_eq_true, beq_iff_eq] at hb
        have := hwait e he hb.2
        rw [hb.1] at this
        exact getD_true_false (by omega) this
      have hprod : ∀ s, ((List.range n).all fun i => match l.toArray[i]? with | some p => (p.dst != some s) || o.after.any fun e => e.on == i && Region.binds .any e | none => false) = true → ∀ i p, i < n → l[i]? = some p → p.dst = some s → L.getD i true = true := fun s h i p hi hp hps => by
        have h6 := List.all_eq_true.1 h i (List.mem_range.2 hi)
        have hp' : l.toArray[i]? = some p := by simpa using hp
        simp only [hp', Bool.or_eq_true] at h6
        rcases h6 with h6 | h6
        · rw [hps] at h6; simp at h6
        · exact hdone i (by omega) h6
      unfold wpOp
      simp only [ho]
      rw [if_pos (by unfold Region.wanted; rw [hg])]
      refine .inl ?_
      by_cases hjn : j < n
      · rw [if_pos hjn] at hJ
        simp only [Bool.and_eq_true] at hJ
        obtain ⟨⟨⟨h1, h2⟩, h3⟩, h4⟩ := hJ
        obtain ⟨t, ht⟩ : ∃ t, o.dst = some t := Option.isSome_iff_exists.1 h1
        have hcong : execOp a.eval o = execOp A.eval o := execOp_congr o (fun cs b => Region.noSelect_spec hsel j o cs b ho) fun x hx => by
          cases x with
          | tmp s =>
            have h5 := List.all_eq_true.1 h3 (.tmp s) (by simpa using hx)
            simp only [Bool.and_eq_true] at h5
            refine tmps_eval ?_
            rw [hm.agree s fun i p hi hp hps => hprod s h5.2 i p hi hp hps]
            refine hm.keep s fun i p hi hik hp hps => ?_
            have hil : i < l.length := (List.getElem?_eq_some_iff.1 hp).1
            have h6 := List.all_eq_true.1 h5.1 i (List.mem_range.2 hil)
            have hp' : l.toArray[i]? = some p := by simpa using hp
            simp only [hp', show ¬ i < n by omega, decide_false, Bool.false_or] at h6
            rw [hps] at h6
            have h7 : edgeB l i j = true := by
              unfold edgeB
              simp only [hp']
              simpa using h6
            rw [hm.closed i j hil hjl h7 (by rw [hm.tail i hi hil]; simpa using hik)] at hju
            cases hju
          | const v => rfl
          | global g => rfl
          | func f => rfl
        have hta := (hop j o hjn ho' W (Fr.refl _ _) t ht).2
        have hAt : A.tmps[t]? = some (A.tmps.getD t undef) := by simp [hta]
        have htail : ∀ i p, n ≤ i → l[i]? = some p → p.dst ≠ some t := fun i p hi hp hps => by
          have hil : i < l.length := (List.getElem?_eq_some_iff.1 hp).1
          have h5 := List.all_eq_true.1 hall i (List.mem_range.2 hil)
          have hp' : l.toArray[i]? = some p := by simpa using hp
          simp only [hp', Bool.and_eq_true] at h5
          have h6 := h5.2
          rw [if_neg (by omega)] at h6
          simp only [Bool.and_eq_true, hps] at h6
          have h7 := List.all_eq_true.1 h6.1.2 j (List.mem_range.2 hjn)
          simp only [ho, ht] at h7
          simp at h7
        have hagree : ∀ s, (∀ i p, i < n → l[i]? = some p → p.dst = some s → (L.setIfInBounds j true).getD i true = true) → (a.put o.dst (A.tmps.getD t undef)).tmps[s]? = B.tmps[s]? := fun s hs => by
          by_cases e : t = s
          · subst e
            simp only [Act.put, ht]
            rw [getE_set_self (by rw [hm.size, hm.bsize]; exact hta), hm.keep t (fun i p hi _ hp => htail i p hi hp), hAt]
          · simp only [Act.put, ht, Array.getElem?_setIfInBounds_ne e]
            refine hm.agree s fun i p hi hp hps => ?_
            have hij : i ≠ j := fun e2 => by
              subst e2
              rw [ho'] at hp
              obtain rfl : o = p := Option.some.inj hp
              exact e (Option.some.inj (ht.symm.trans hps))
            rw [← hset i hij]
            exact hs i p hi hp hps
        have htl : ∀ i, n ≤ i → i < l.length → (L.setIfInBounds j true).getD i true = decide (i < n + k) := fun i hi hil => by
          rw [hset i (by omega)]
          exact hm.tail i hi hil
        by_cases hk : k = 0
        · have hst := hm.still (by omega)
          have hBA := hm.zero hk
          have hqa := (hop j o hjn ho' w hst t ht).1
          have hq' : o.quietAt P a (fun u => Still w u) w (A.tmps.getD t undef) := by
            unfold Oper.quietAt at hqa ⊢
            rw [hcong]
            exact hqa
          refine wp_of_at hq' fun w' hw' => next _ w' k B ⟨by simp [Act.put, ht, hm.size], by simp [Act.put, ht, hm.defers], hagree, hm.keep, hm.le, htl, fun h => by omega, fun h => by omega, fun _ => hBA, fun _ => hst.trans hw', fun h => by omega, hm.bsize, hcl⟩
        · have hrun : (execOp A.eval o).run P w = .ok (.value (A.tmps.getD t undef)) w := by
            cases e : pureB o.op with
            | true => exact pure_run e A.eval (hop j o hjn ho' W (Fr.refl _ _) t ht).1 w
            | false =>
              by_cases hkq : k ≤ q
              · cases e2 : plainB o.op with
                | true => exact plain_run e2 A.eval (hop j o hjn ho' w (hm.still hkq) t ht).1
                | false => rw [hm.first (by omega) j o hjn ho' e e2] at hju; cases hju
              · rw [hm.second (by omega) j o hjn ho' e] at hju; cases hju
          unfold Oper.wp
          rw [hcong, hrun, Oper.upon_value]
          exact next _ w k B ⟨by simp [Act.put, ht, hm.size], by simp [Act.put, ht, hm.defers], hagree, hm.keep, hm.le, htl, fun h i p hi hp h1 h2 => hmore i (hm.first h i p hi hp h1 h2), fun h i p hi hp h1 => hmore i (hm.second h i p hi hp h1), fun h => absurd h hk, hm.still, hm.wp, hm.bsize, hcl⟩
      · rw [if_neg hjn] at hJ
        simp only [Bool.and_eq_true] at hJ
        obtain ⟨⟨h1, h2⟩, h3⟩ := hJ
        have hjk : j = n + k := by
          have h5 := hm.tail j (by omega) hjl
          rw [hju] at h5
          have h6 : ¬ j < n + k := by simpa using h5.symm
          by_cases e : j = n
          · omega
          · have e' : (j == n) = false := by simpa using e
            rw [e', Bool.false_or] at h1
            have h7 := hdone (j - 1) (by omega) h1
            rw [hm.tail (j - 1) (by omega) (by omega)] at h7
            have := of_decide_eq_true h7
            omega
        have hcong : execOp a.eval o = execOp B.eval o := execOp_congr o (fun cs b => Region.noSelect_spec hsel j o cs b ho) fun x hx => by
          cases x with
          | tmp s => exact tmps_eval (hm.agree s fun i p hi hp hps => hprod s (List.all_eq_true.1 h3 (.tmp s) (by simpa using hx)) i p hi hp hps)
          | const v => rfl
          | global g => rfl
          | func f => rfl
        have hw : wpList P l.toArray (Nrm Q) (o :: l.drop (n + (k + 1))) B w := by
          have e : l.drop (n + k) = o :: l.drop (n + (k + 1)) := by rw [← hjk, drop_at ho', hjk]; rfl
          rw [← e]
          by_cases hk : k = 0
          · have hst := hm.still (by omega)
            have hBA := hm.zero hk
            subst hk
            rw [hBA]
            exact hT w hst
          · exact hm.wp (by omega)
        unfold wpList at hw
        rw [if_pos (by unfold Region.wanted; rw [hg])] at hw
        have hw2 : o.upon P B (wpList P l.toArray (Nrm Q) (l.drop (n + (k + 1)))) (Nrm Q) ((execOp B.eval o).run P w) := by
          rcases hw with hw | ⟨_, a0, w0, h0, _⟩
          · exact hw
          · cases h0
        have hsm : ∀ i j', edgeB l i j' = true → i < l.length ∧ j' < l.length := fun i j' he => by
          unfold edgeB at he
          cases eo : l.toArray[i]? with
          | none => rw [eo] at he; cases he
          | some q =>
            have hil : i < l.length := by have := (Array.getElem?_eq_some_iff.1 eo).1; simpa using this
            simp only [eo] at he
            obtain ⟨e, he1, hb⟩ := Array.any_eq_true'.1 he
            simp only [Bool.and_eq_true, beq_iff_eq] at hb
            have := lowK_spec hlow hil eo e he1 hb.2
            exact ⟨hil, by omega⟩
        have hkind : ∀ i p, i < n → l[i]? = some p → (pureB p.op || (plainB p.op && reachB l (n + q) 6 i) || reachB l n 6 i) = true := fun i p hi hp => by
          have h5 := List.all_eq_true.1 hall i (List.mem_range.2 (by omega))
          have hp' : l.toArray[i]? = some p := by simpa using hp
          simp only [hp', Bool.and_eq_true] at h5
          have h6 := h5.2
          rw [if_pos hi] at h6
          simp only [Bool.and_eq_true] at h6
          exact h6.2
        have hedge : ∀ j', edgeB l j j' = true → L.getD j' true = true := fun j' he => by
          have hj' := (hsm j j' he).2
          unfold edgeB at he
          simp only [ho] at he
          exact hdone j' hj' he
        have hreachj : ∀ i, reachB l j 6 i = true → L.getD i true = true := fun i h7 => reach_done (n := j) hedge (fun i1 j1 he hl1 => hm.closed i1 j1 (hsm i1 j1 he).1 (hsm i1 j1 he).2 he hl1) 6 i h7
        have hreach0 : k = 0 → ∀ i, reachB l n 6 i = true → L.getD i true = true := fun hk i h7 => hreachj i (by rw [hjk, hk]; exact h7)
        have hreachq : k = q → ∀ i, reachB l (n + q) 6 i = true → L.getD i true = true := fun hk i h7 => hreachj i (by rw [hjk, hk]; exact h7)
        have step : ∀ (a1 B1 : Act) (w1 : World), a1.tmps.size = B1.tmps.size → B1.tmps.size = A.tmps.size → a1.defers = B1.defers → (∀ s, (∀ i p, i < n → l[i]? = some p → p.dst = some s → L.getD i true = true) → a1.tmps[s]? = B1.tmps[s]?) → (∀ s, (∀ i p, n ≤ i → i < n + (k + 1) → l[i]? = some p → p.dst ≠ some s) → B1.tmps[s]? = A.tmps[s]?) → wpList P l.toArray (Nrm Q) (l.drop (n + (k + 1))) B1 w1 → (k + 1 ≤ q → Still W w1) → wpAny P .any l.toArray Q f (L.setIfInBounds j true) a1 w1 := fun a1 B1 w1 g1 g2 g3 g4 g5 g6 g7 =>
          next a1 w1 (k + 1) B1 ⟨g1, g3, fun s hs => g4 s fun i p hi hp hps => by rw [← hset i (by omega)]; exact hs i p hi hp hps, g5, by omega, fun i hi hil => by
            by_cases e : i = j
            · rw [e, hself]; symm; simp; omega
            · rw [hset i e, hm.tail i hi hil]
              have : (i < n + k) ↔ (i < n + (k + 1)) := by omega
              simp [this],
            fun _ i p hi hp hpp hpl => by
              rw [hset i (by omega)]
              by_cases hk : k = 0
              · have h6 := hkind i p hi hp
                rw [hpp, hpl] at h6
                exact hreach0 hk i (by simpa using h6)
              · exact hm.first (by omega) i p hi hp hpp hpl,
            fun hq2 i p hi hp hpp => by
              rw [hset i (by omega)]
              by_cases hk : k = q
              · have h6 := hkind i p hi hp
                rw [hpp, Bool.false_or, Bool.or_eq_true, Bool.and_eq_true] at h6
                rcases h6 with h6 | h6
                · exact hreachq hk i h6.2
                · by_cases hk0 : k = 0
                  · exact hreach0 hk0 i h6
                  · refine reach_done (n := n) (fun j' he => hm.closed n j' (by omega) (hsm n j' he).2 he ?_) (fun i1 j1 he hl1 => hm.closed i1 j1 (hsm i1 j1 he).1 (hsm i1 j1 he).2 he hl1) 6 i h6
                    rw [hm.tail n (by omega) (by omega)]
                    simp; omega
              · exact hm.second (by omega) i p hi hp hpp,
            fun h => by omega, g7, fun _ => g6, g2, hcl⟩
        have hd : ∀ t, o.dst = some t → ∀ i p, i < n → l[i]? = some p → p.dst ≠ some t := fun t ht i p hi hp hps => by
          rw [ht] at h2
          have h5 := List.all_eq_true.1 h2 i (List.mem_range.2 hi)
          have hp' : l.toArray[i]? = some p := by simpa using hp
          simp only [hp', hps] at h5
          simp at h5
        have put : ∀ (a1 B1 : Act) (v : Value) (w1 : World), a1.tmps = a.tmps → B1.tmps = B.tmps → a1.defers = B1.defers → wpList P l.toArray (Nrm Q) (l.drop (n + (k + 1))) (B1.put o.dst v) w1 → (k + 1 ≤ q → Still W w1) → wpAny P .any l.toArray Q f (L.setIfInBounds j true) (a1.put o.dst v) w1 := fun a1 B1 v w1 e1 e2 e3 hw1 hs1 => by
          cases ht : o.dst with
          | none =>
            rw [ht] at hw1
            exact step a1 B1 w1 (by rw [e1, e2]; exact hm.size) (by rw [e2]; exact hm.bsize) e3 (fun s hs => by rw [e1, e2]; exact hm.agree s hs) (fun s hs => by rw [e2]; exact hm.keep s (fun i p h1 h2 hp => hs i p h1 (by omega) hp)) hw1 hs1
          | some t =>
            rw [ht] at hw1
            refine step _ _ w1 (by simp [Act.put, e1, e2, hm.size]) (by simp [Act.put, e2, hm.bsize]) (by simp [Act.put, e3]) (fun s hs => ?_) (fun s hs => ?_) hw1 hs1
            · by_cases e : t = s
              · subst e
                simp only [Act.put, e1, e2]
                by_cases hlt : t < a.tmps.size
                · rw [getE_set_self hlt, getE_set_self (by rw [← hm.size]; exact hlt)]
                · rw [Array.getElem?_eq_none (show (a.tmps.setIfInBounds t v).size ≤ t by rw [Array.size_setIfInBounds]; exact Nat.le_of_not_lt hlt), Array.getElem?_eq_none (show (B.tmps.setIfInBounds t v).size ≤ t by rw [Array.size_setIfInBounds, ← hm.size]; exact Nat.le_of_not_lt hlt)]
              · simp only [Act.put, Array.getElem?_setIfInBounds_ne e, e1, e2]
                exact hm.agree s hs
            · have hne : t ≠ s := fun e => hs j o (by omega) (by omega) ho' (by rw [ht, e])
              simp only [Act.put, Array.getElem?_setIfInBounds_ne hne, e2]
              exact hm.keep s (fun i p h1 h2 hp => hs i p h1 (by omega) hp)
        unfold Oper.wp
        rw [hcong]
        by_cases hk : k = 0 ∧ q = 1
        · obtain ⟨hk, hq⟩ := hk
          have hst := hm.still (by omega)
          have hBA := hm.zero hk
          obtain ⟨v, u', hrun, hsu⟩ := hS hq o (by rw [← ho']; congr 1; omega) w hst
          rw [hBA, hrun, Oper.upon_value] at hw2
          rw [hBA, hrun, Oper.upon_value]
          exact put a A v u' rfl (by rw [hBA]) (by rw [hm.defers, hBA]) hw2 (fun _ => hst.trans hsu)
        · exact upon_sim (fun v w1 hw1 => put a B v w1 rfl rfl hm.defers hw1 (fun h => absurd ⟨by omega, by omega⟩ hk)) (fun d w1 hw1 => put { a with defers := d :: a.defers } { B with defers := d :: B.defers } undef w1 rfl rfl (by simp [hm.defers]) hw1 (fun h => absurd ⟨by omega, by omega⟩ hk)) hw2
/-- In whatever order: the first n operations are walked once, in the text's order, then the rest in theirs; q = 1: the first one of these lays a new block, and what only reads may come behind it. -/
theorem region_laid {id : Nat} {Q : Exit → Act → World → Prop} {a : Act} {w : World} (n q : Nat) (hm : P.follows .mixedOrders = true) (hB : lateB l n q = true) (hdB : dstB (l.take n) a.tmps.size = true)
    (h : ∃ A, (∀ u, Still w u → wpQuiet P l.toArray (fun w' => ∃ z : Aft u, w' = z.u) (fun a' => a' = A) (l.take n) a) ∧ (q = 1 → ∀ o, l[n]? = some o → ∀ u, Still w u → ∃ v u', (execOp A.eval o).run P u = .ok (.value v) u' ∧ Still u u') ∧ ∀ u, Still w u → wpList P l.toArray (Nrm Q) (l.drop n) A u) :
    (Code.region id l.toArray true).wp P Q a w := by
  obtain ⟨A, hwalk, hS, hT⟩ := h
  have hB0 := hB
  unfold lateB at hB
  simp only [Bool.and_eq_true, decide_eq_true_eq] at hB
  obtain ⟨⟨⟨⟨hsel, hlow⟩, ⟨hnl, _⟩⟩, hgood⟩, hall⟩ := hB
  have hin : ∀ o ∈ l.take n, o ∈ l.toArray := fun o ho => by simpa using List.mem_of_mem_take ho
  have hsel' : ∀ o ∈ l.toArray, ∀ cs b, o.op ≠ .select cs b := fun o ho cs b => by
    obtain ⟨i, hi, e⟩ := Array.mem_iff_getElem.1 ho
    exact Region.noSelect_spec hsel i o cs b (by rw [Array.getElem?_eq_getElem hi, e])
  have hmem : ∀ j o, j < n → l[j]? = some o → o ∈ l.take n := fun j o hj ho => List.mem_iff_getElem?.2 ⟨j, by rw [List.getElem?_take_of_lt hj]; exact ho⟩
  obtain ⟨⟨e1, e2, e3⟩, _⟩ := walk_each hsel' (l.take n) a hin hgood hdB (hwalk w (Fr.refl _ _))
  refine wp_region_any hm ?_
  have hst0 : Still w { w with drawn := w.drawn + 1 } := (Fr.refl _ w).drew
  have key := any_late (P := P) (W := w) (A := A) (Q := Q) hB0 hS (fun j o hj ho u hu t ht => (walk_each hsel' (l.take n) a hin hgood hdB (hwalk u hu)).2 o (hmem j o hj ho) t ht) hT l.length (Array.replicate l.length false) a { w with drawn := w.drawn + 1 } 0 A (by simp) (cnt_new (Nat.le_refl _))
    ⟨e1.symm, e2.symm, fun t ht => (e3 t fun o ho e => ?_).symm, fun _ _ => rfl, by omega, fun i hi hil => by simp [hil]; omega, fun h => by omega, fun h => by omega, fun _ => rfl, fun _ => hst0, fun h => by omega, rfl, fun i j hi _ _ hl => by simp [hi] at hl⟩
  · simpa using key
  · obtain ⟨j, hj, e4⟩ := List.mem_iff_getElem.1 ho
    have hjn : j < n := by simp at hj; omega
    have := ht j o hjn (by rw [← List.getElem?_take_of_lt hjn, List.getElem?_eq_getElem hj, e4]) e
    simp [show j < l.length by omega] at this
/-- .. and where nothing is laid -/
theorem region_late {id : Nat} {Q : Exit → Act → World → Prop} {a : Act} {w : World} (n : Nat) (hm : P.follows .mixedOrders = true) (hB : lateB l n 0 = true) (hdB : dstB (l.take n) a.tmps.size = true)
    (h : ∃ A, (∀ u, Still w u → wpQuiet P l.toArray (fun w' => ∃ z : Aft u, w' = z.u) (fun a' => a' = A) (l.take n) a) ∧ ∀ u, Still w u → wpList P l.toArray (Nrm Q) (l.drop n) A u) :
    (Code.region id l.toArray true).wp P Q a w := by
  obtain ⟨A, h1, h2⟩ := h
  exact region_laid n 0 hm hB hdB ⟨A, h1, fun h => by omega, h2⟩
end
end Go.Proofs.YtdljmpjfiggdiaaDoor
