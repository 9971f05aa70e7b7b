/- A statement that draws its order: what every world on the way has (I) is enough for an operation that only reads to be taken first. No function of the program is named here. -/
import Derived.Test.YtaaongbdincimaaGreatDoorK5b
set_option maxRecDepth 100000
namespace Go.Proofs.YtaaongbdincimaaGreatDoor
open Go
set_option linter.unusedVariables false

section
variable {P : Program} {md : Region.Mode} {ops : Array Oper} {I : World → Prop} {Q : Exit → Act → World → Prop}
/-- every order, and every world on the way has I -/
def wpAnyI (P : Program) (md : Region.Mode) (ops : Array Oper) (I : World → Prop) (Q : Exit → Act → World → Prop) : Nat → Array Bool → Act → World → Prop
  | 0, L, a, w => I w ∧ Region.ready md ops L = [] ∧ Q .normal a w
  | f + 1, L, a, w => I w ∧ (Region.ready md ops L = [] → Q .normal a w) ∧ ∀ i ∈ Region.ready md ops L, wpOp P ops Q i (wpAnyI P md ops I Q f (L.setIfInBounds i true)) a w
theorem wpAnyI_to : ∀ (f : Nat) (L : Array Bool) (a : Act) (w : World), wpAnyI P md ops I Q f L a w → wpAny P md ops Q f L a w
  | 0, _, _, _, h => h.2
  | f + 1, L, a, w, h => ⟨h.2.1, fun i hi => wpOp_mono (fun a' w' h' => wpAnyI_to f _ a' w' h') (h.2.2 i hi)⟩
theorem wpAnyI_has : ∀ {f : Nat} {L : Array Bool} {a : Act} {w : World}, wpAnyI P md ops I Q f L a w → I w
  | 0, _, _, _, h => h.1
  | _ + 1, _, _, _, h => h.1
/-- in every such world it yields v, and leaves the world -/
def YieldsI (P : Program) (I : World → Prop) (o : Oper) (v : Value) (a : Act) : Prop := ∀ w, I w → (execOp a.eval o).run P w = .ok (.value v) w
theorem wpOp_putI {j : Nat} {oi oj : Oper} {v : Value} {Y : Act → Prop} (hj : ops[j]? = some oj) (hap : oi.apart ops oj = true) (hsj : ∀ cs b, oj.op ≠ .select cs b)
    (hQ : ∀ c a w, Q (.panic c) (a.put oi.dst v) w → Q (.panic c) a w) {K : Act → World → Prop} {a : Act} {w : World}
    (hY : ∀ u, Y (a.put oj.dst u)) (hD : ∀ d, Y ({ a with defers := d :: a.defers }.put oj.dst undef)) (h : wpOp P ops Q j K (a.put oi.dst v) w) :
    wpOp P ops Q j (fun a' w' => Y a' ∧ K (a'.put oi.dst v) w') a w := by
  obtain ⟨h1, h2, _⟩ := Oper.apart_spec hap
  have hw := wanted_put oj a oi.dst v h1
  have he := execOp_put oj hsj a oi.dst v h1
  have cm : ∀ u, (a.put oi.dst v).put oj.dst u = (a.put oj.dst u).put oi.dst v := fun u => Act.put_comm a v u h2
  unfold wpOp at h ⊢
  simp only [hj] at h ⊢
  rw [hw] at h
  by_cases hwt : Region.wanted oj (yielded ops a.tmps) = true
  · rw [if_pos hwt] at h ⊢
    unfold Oper.wp Oper.asks at *
    rw [he] at h
    rcases h with h | h
    · left
      cases hr : (execOp a.eval oj).run P w with
      | ok x w' =>
        rw [hr] at h
        cases x with
        | value u => exact ⟨hY u, (cm u) ▸ (show K ((a.put oi.dst v).put oj.dst u) w' from h)⟩
        | skip => exact ⟨hY undef, (cm undef) ▸ (show K ((a.put oi.dst v).put oj.dst undef) w' from h)⟩
        | defer d =>
          refine ⟨hD d, ?_⟩
          have e := Act.put_comm { a with defers := d :: a.defers } v undef h2
          rw [← e, ← Act.put_defers]
          exact h
        | enter f args =>
          refine Calls.mono (show Calls P f args w' _ from h) fun e w'' q => ?_
          cases e with
          | returned u => exact ⟨hY u, (cm u) ▸ (show K ((a.put oi.dst v).put oj.dst u) w'' from q)⟩
          | panicked c => exact hQ _ _ _ q
          | outgrown => exact q
        | row r args => exact Rows.mono (show Rows P r args w' _ from h) fun u w'' q => ⟨hY u, (cm u) ▸ (show K ((a.put oi.dst v).put oj.dst u) w'' from q)⟩
        | _ => exact h
      | halt x w' =>
        rw [hr] at h
        cases x with
        | panic u => exact hQ _ _ _ h
        | _ => exact h
    · exact .inr h
  · rw [if_neg hwt] at h ⊢
    exact ⟨hY undef, (cm undef) ▸ h⟩
theorem wpAnyI_first {i : Nat} {oi : Oper} {v : Value} (hi : ops[i]? = some oi) (hg : oi.guard = none) (hsel : ∀ (j : Nat) (o : Oper) cs b, ops[j]? = some o → o.op ≠ .select cs b)
    (hQ : ∀ c a w, Q (.panic c) (a.put oi.dst v) w → Q (.panic c) a w) :
    ∀ (f : Nat) (L : Array Bool) (a : Act) (w : World),
      (∀ j oj, ops[j]? = some oj → j ≠ i → L.getD j true = false → (∀ e ∈ oj.after, Region.binds md e = true → e.on ≠ i) → oi.apart ops oj = true) →
      i ∈ Region.ready md ops L → YieldsI P I oi v a → wpAnyI P md ops I Q f (L.setIfInBounds i true) (a.put oi.dst v) w → wpAnyI P md ops I Q (f + 1) L a w := by
  have hwant : ∀ t, Region.wanted oi (yielded ops t) = true := fun t => by unfold Region.wanted; rw [hg]
  have here : ∀ (f : Nat) (L : Array Bool) (a : Act) (w : World), YieldsI P I oi v a → wpAnyI P md ops I Q f (L.setIfInBounds i true) (a.put oi.dst v) w → wpOp P ops Q i (wpAnyI P md ops I Q f (L.setIfInBounds i true)) a w := by
    intro f L a w hy H
    unfold wpOp
    simp only [hi]
    rw [if_pos (hwant _)]
    left
    unfold Oper.wp
    rw [hy w (wpAnyI_has H)]
    exact H
  intro f
  induction f with
  | zero =>
    intro L a w _ hr hy H
    refine ⟨H.1, fun h => (by rw [h] at hr; cases hr), fun j hj => ?_⟩
    by_cases hji : j = i
    · subst hji; exact here 0 L a w hy H
    · have := ready_mono hj hji
      rw [H.2.1] at this
      cases this
  | succ f ih =>
    intro L a w hfree hr hy H
    refine ⟨H.1, fun h => (by rw [h] at hr; cases hr), fun j hj => ?_⟩
    by_cases hji : j = i
    · subst hji; exact here (f + 1) L a w hy H
    · have h1 := H.2.2 j (ready_mono hj hji)
      obtain ⟨hjun, oj, hoj, hall⟩ := mem_ready.1 hj
      have hnot : ∀ e ∈ oj.after, Region.binds md e = true → e.on ≠ i := fun e he hb heq => by
        have h1 := hall e he hb
        have h0 := (mem_ready.1 hr).1
        rw [heq] at h1
        rcases Nat.lt_or_ge i L.size with h' | h'
        · simp [h'] at h0 h1; rw [h0] at h1; cases h1
        · simp [Array.getElem?_eq_none h'] at h1
      have hap := hfree j oj hoj hji hjun hnot
      obtain ⟨_, _, h3⟩ := Oper.apart_spec hap
      have hyk : ∀ b : Act, YieldsI P I oi v b → ∀ u, YieldsI P I oi v (b.put oj.dst u) := fun b hb u w' hw' => by
        rw [execOp_put oi (fun cs b => hsel i oi cs b hi) b oj.dst u h3]
        exact hb w' hw'
      have h2 := wpOp_putI (Y := YieldsI P I oi v) hoj hap (fun cs b => hsel j oj cs b hoj) hQ (hyk a hy) (fun d => hyk { a with defers := d :: a.defers } (fun w' hw' => hy w' hw') undef) h1
      have hfree' : ∀ k ok, ops[k]? = some ok → k ≠ i → (L.setIfInBounds j true).getD k true = false →
          (∀ e ∈ ok.after, Region.binds md e = true → e.on ≠ i) → oi.apart ops ok = true := fun k ok hk hki hun hno => by
        refine hfree k ok hk hki ?_ hno
        by_cases hjk : j = k
        · subst hjk; exact hjun
        · rw [getD_set_ne true hjk] at hun; exact hun
      refine wpOp_mono (fun a' w' h3 => ih (L.setIfInBounds j true) a' w' hfree' (ready_mono hr (Ne.symm hji)) h3.1 ?_) h2
      rw [Array.setIfInBounds_comm _ _ hji]
      exact h3.2
/-- an operation that only reads is taken first -/
theorem wpAnyI_take {i : Nat} {oi : Oper} {v : Value} {f : Nat} {L : Array Bool} {a : Act} {w : World} (hi : ops[i]? = some oi) (hg : oi.guard.isNone = true)
    (hs : Region.noSelect ops = true) (hf : Region.free md ops L i = true) (hr : (Region.ready md ops L).contains i = true)
    (hQ : ∀ c a w, Q (.panic c) (a.put oi.dst v) w → Q (.panic c) a w) (hy : YieldsI P I oi v a)
    (h : wpAnyI P md ops I Q f (L.setIfInBounds i true) (a.put oi.dst v) w) : wpAnyI P md ops I Q (f + 1) L a w :=
  wpAnyI_first hi (by simpa using hg) (Region.noSelect_spec hs) hQ f L a w (Region.free_spec hi hf) (by simpa using hr) hy h
def AllI (P : Program) (md : Region.Mode) (ops : Array Oper) (I : World → Prop) (Q : Exit → Act → World → Prop) (f : Nat) (L : Array Bool) (a : Act) (w : World) (rs : List Nat) : Prop :=
  ∀ i ∈ rs, wpOp P ops Q i (wpAnyI P md ops I Q f (L.setIfInBounds i true)) a w
theorem AllI.nil {f : Nat} {L : Array Bool} {a : Act} {w : World} : AllI P md ops I Q f L a w [] := fun _ h => by cases h
theorem AllI.cons {f : Nat} {L : Array Bool} {a : Act} {w : World} {i : Nat} {o : Oper} {rs : List Nat} (ho : ops[i]? = some o) (hg : o.guard.isNone = true)
    (h : ∀ K : Act → World → Prop, (∀ a w, wpAnyI P md ops I Q f (L.setIfInBounds i true) a w → K a w) → o.wp P a w K Q) (hr : AllI P md ops I Q f L a w rs) : AllI P md ops I Q f L a w (i :: rs) := by
  intro k hk
  rcases List.mem_cons.1 hk with rfl | hk
  · unfold wpOp
    simp only [ho]
    rw [if_pos (by unfold Region.wanted; rw [show o.guard = none by simpa using hg])]
    exact .inl (h _ fun _ _ h => h)
  · exact hr k hk
/-- these are all that may come up -/
theorem wpAnyI_ready {rs : List Nat} {f : Nat} {L : Array Bool} {a : Act} {w : World} (hI : I w) (hr : Region.ready md ops L = rs) (hne : rs ≠ [])
    (h : AllI P md ops I Q f L a w rs) : wpAnyI P md ops I Q (f + 1) L a w := ⟨hI, fun h0 => absurd (hr ▸ h0) hne, hr ▸ h⟩
theorem wpAnyI_done {L : Array Bool} {a : Act} {w : World} (hI : I w) (hr : Region.ready md ops L = []) (h : Q .normal a w) : ∀ f, wpAnyI P md ops I Q f L a w
  | 0 => ⟨hI, hr, h⟩
  | _ + 1 => ⟨hI, fun _ => h, by rw [hr]; simp⟩
theorem region_I {id : Nat} {a : Act} {w : World} (I : World → Prop) (hm : P.follows .mixedOrders = true)
    (h : wpAnyI P .any ops I Q ops.size (Array.replicate ops.size false) a w.drew) : (Code.region id ops true).wp P Q a w := wp_region_any hm (wpAnyI_to _ _ _ _ h)
end
end Go.Proofs.YtaaongbdincimaaGreatDoor
