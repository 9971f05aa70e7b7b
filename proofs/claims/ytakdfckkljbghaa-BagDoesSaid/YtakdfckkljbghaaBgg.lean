/- The program's Flight. -/
import Derived.Test.YtakdfckkljbghaaBgf
namespace Go.Proofs.Ytakdfckkljbghaa
open Go.RowKit
set_option maxRecDepth 100000
set_option linter.unusedVariables false

/-- rows of bytes apart -/
def DjP (x y : Pcl) : Prop := ∀ a b, x.ao = some a → y.ao = some b → a.block ≠ b.block
theorem DjP.symm {x y : Pcl} (h : DjP x y) : DjP y x := fun a b ha hb e => h b a hb ha e.symm
theorem ranges_fr {F : Nat → Prop} {w w' : World} (hf : Fr F w w') {b r n cnt : Nat} {L : DataW Value} {left : Lit → Bool} (h : w.ranges Try.prog 3 Rh b r n L left cnt) (hb : ¬ F b) (hr : ¬ F r) : w'.ranges Try.prog 3 Rh b r n L left cnt := by
  have h1 := h.owns.lt
  have h2 := h.lt
  obtain ⟨es, clock, since, seen, c0, hb', F', hs, hD, hr', rest⟩ := h
  exact ⟨es, clock, since, seen, c0, (hf.block b h1 hb).trans hb', F', hs, hD, (hf.block r h2 hr).trans hr', rest⟩
theorem grown_fr {w w' : World} {b : Nat} (g : w.grownBy w' (some b)) : Fr (fun k => k = b) w w' := ⟨g.os, g.tape, g.output, g.size, fun k hk hn => g.block k hk (fun e => hn (by cases e; rfl))⟩
theorem grown_still {w w' : World} (g : w.grownBy w' none) : Still w w' := ⟨g.os, g.tape, g.output, g.size, fun k hk _ => g.block k hk (by simp)⟩
/-- a step of the range: one of the list has come -/
theorem wpList_nextP {ops : Array Oper} {rest : List Oper} {o : Oper} {a : Act} {Q : Exit → Act → World → Prop} (w : World) (hg : o.guard = none) (it : Operand) (hop : o.op = Op.next it false) (b r n : Nat) (L : List Pcl) (left : Lit → Bool) (cnt : Nat)
    (hit : a.eval it = .pointer (some ⟨r, 0, none⟩)) (h : w.ranges Try.prog 3 Rh b r n (mpD L) left cnt)
    (hDone : (∀ kl, left kl = false) → wpList Try.prog ops Q rest (a.put o.dst (.tuple #[.bool false])) w)
    (hMore : ∀ (x : Pcl) (w' : World) (cnt' : Nat), x ∈ L → left (.int .i64 x.no) = true → w'.ranges Try.prog 3 Rh b r n (mpD L) (fun z => left z && !z.sameKey (.int .i64 x.no)) cnt' → cnt' < cnt → w.grownBy w' (some r) →
      (Instr.entry (.pointer (some ⟨r, 0, none⟩))).run Try.prog w' = .ok (.tuple #[.int .i64 x.no, pvl x]) w' → wpList Try.prog ops Q rest (a.put o.dst (.tuple #[.bool true, .int .i64 x.no, pvl x])) w') :
    wpList Try.prog ops Q (o :: rest) a w := by
  refine wpList_plain hg fun K' hK' => ?_
  unfold Oper.wp
  rcases h.next lawI o.type with ⟨_, hl, hrun⟩ | ⟨key, v, kl, y, w', cnt', hkey, hlk, hv, hat, hrun, hrg, hlt, hgr, hsz, hen⟩
  · simp [execOp, hop, hit, hrun, Result.andThen]
    exact hK' _ _ (hDone hl)
  · obtain ⟨k, rfl, rfl, _⟩ := Maps.keyOf_int_inv Try.underlying3 hkey
    have hy : y.1 = .held v := by
      injection hv with h1
      rw [← h1]
    have hx : ∃ x, fndP L k = some x ∧ v = pvl x := by
      have h1 := hat .nil
      rw [mpD_at, hy] at h1
      cases hf : fndP L k with
      | none => rw [hf] at h1; cases h1
      | some x =>
        rw [hf] at h1
        refine ⟨x, rfl, ?_⟩
        injection h1 with h2
        exact h2.symm
    obtain ⟨x, hf, rfl⟩ := hx
    obtain ⟨hm, rfl⟩ := fndP_some hf
    simp [execOp, hop, hit, hrun, Result.andThen]
    exact hK' _ _ (hMore x w' cnt' hm hlk hrg hlt hgr hen)
theorem filt_step {left : Lit → Bool} {x : Pcl} : ∀ {L : List Pcl}, UpP L → x ∈ L → left (.int .i64 x.no) = true → ((L.filter (fun y => !left (.int .i64 y.no))) ++ [x]).Perm (L.filter (fun y => !(left (.int .i64 y.no) && !(Lit.int .i64 y.no).sameKey (.int .i64 x.no))))
  | [], _, h, _ => by cases h
  | z :: L, hu, h, hl => by
    obtain ⟨h1, h2⟩ := List.pairwise_cons.1 hu
    rcases List.mem_cons.1 h with rfl | hx
    · have e : L.filter (fun y => !(left (.int .i64 y.no) && !(Lit.int .i64 y.no).sameKey (.int .i64 x.no))) = L.filter (fun y => !left (.int .i64 y.no)) := by
        refine List.filter_congr fun y hy => ?_
        have := h1 y hy
        rw [same_int, show (y.no == x.no) = false from beq_eq_false_iff_ne.2 (by omega)]
        simp
      rw [List.filter_cons, List.filter_cons, hl, same_int, e]
      simp
    · have hne := h1 x hx
      have ih := filt_step h2 hx hl
      rw [List.filter_cons, List.filter_cons, same_int, show (z.no == x.no) = false from beq_eq_false_iff_ne.2 (by omega)]
      simp only [Bool.not_false, Bool.and_true]
      split
      · exact List.Perm.cons z ih
      · exact ih
/-- the list so far -/
structure Fl (w wr : World) (mb r : Nat) (la : Int) (L : List Pcl) (v : Value) (left : Lit → Bool) (cnt : Nat) (A : List Pcl) : Prop where
  rg : wr.ranges Try.prog 3 Rh mb r la.toNat (mpD L) left cnt
  ow : OwG KPl 43 wr w.heap.size v A
  nn : ∃ g cap, v = .slice (some ⟨g, 0, none⟩) A.length cap
  pm : (A.map abP).Perm ((L.filter (fun x => !left (.int .i64 x.no))).map abP)
  rq : ∀ y ∈ A, Rq wr y ∧ ∀ a, y.ao = some a → w.heap.size ≤ a.block
  dj : A.Pairwise DjP
  st : Still w wr
  rl : w.heap.size ≤ r
theorem Fl.vr {w wr : World} {mb r : Nat} {la : Int} {L : List Pcl} {v : Value} {left : Lit → Bool} {cnt : Nat} {A : List Pcl} (h : Fl w wr mb r la L v left cnt A) : v.ownBlock ≠ some r ∧ v.ownBlock ≠ some mb := by
  obtain ⟨es, clock, since, seen, c0, hb', _, _, _, hr', _⟩ := h.rg
  refine ⟨fun e => ?_, fun e => ?_⟩
  · obtain ⟨cur, hc⟩ := ow_ty h.ow e
    rw [hr'] at hc; cases hc
  · obtain ⟨cur, hc⟩ := ow_ty h.ow e
    rw [hb'] at hc; cases hc
theorem Fl.len {w wr : World} {mb r : Nat} {la : Int} {L : List Pcl} {v : Value} {left : Lit → Bool} {cnt : Nat} {A : List Pcl} (h : Fl w wr mb r la L v left cnt A) : A.length ≤ L.length := by
  have := h.pm.length_eq
  simp only [List.length_map] at this
  rw [this]
  exact List.length_filter_le _ _
theorem Fl.nb {w wr : World} {mb r : Nat} {la : Int} {L : List Pcl} {v : Value} {left : Lit → Bool} {cnt : Nat} {A : List Pcl} (h : Fl w wr mb r la L v left cnt A) : Nbt wr r := by
  obtain ⟨es, clock, since, seen, c0, hb', _, _, _, hr', _⟩ := h.rg
  intro cur hc
  rw [hr'] at hc; cases hc
/-- .. behind the step of the range and what lies behind it -/
theorem Fl.own {w wr w1 w2 : World} {mb r : Nat} {la : Int} {L : List Pcl} {v : Value} {left : Lit → Bool} {cnt : Nat} {A : List Pcl} (h : Fl w wr mb r la L v left cnt A) (g1 : wr.grownBy w1 (some r)) (s2 : Still w1 w2) : OwG KPl 43 w2 w.heap.size v A ∧ Still w w2 := by
  refine ⟨(h.ow.keep (grown_fr g1) (fun k hk e => h.vr.1 (by rw [e, hk]))).still s2, Still.trans (Fr.trans h.st (grown_fr g1) (fun k hk e => by have := h.rl; omega)) s2⟩
theorem Fl.more {w wr w1 w2 w3 : World} {mb r : Nat} {la : Int} {L : List Pcl} {v v' : Value} {left : Lit → Bool} {cnt cnt1 : Nat} {A : List Pcl} {x y : Pcl} (h : Fl w wr mb r la L v left cnt A) (hu : UpP L) (hx : x ∈ L) (hl : left (.int .i64 x.no) = true)
    (rg1 : w1.ranges Try.prog 3 Rh mb r la.toNat (mpD L) (fun z => left z && !z.sameKey (.int .i64 x.no)) cnt1) (g1 : wr.grownBy w1 (some r)) (s2 : Still w1 w2) (hy : abP y = abP x) (hq : Rq w2 y) (hn : ∀ a, y.ao = some a → w1.heap.size ≤ a.block)
    (ho : OwG KPl 43 w3 w.heap.size v' (A ++ [y])) (hf : Fr (fun k => v.ownBlock = some k) w2 w3) (hv : ∃ g cap, v' = .slice (some ⟨g, 0, none⟩) (A ++ [y]).length cap) : Fl w w3 mb r la L v' (fun z => left z && !z.sameKey (.int .i64 x.no)) cnt1 (A ++ [y]) := by
  have ho2 := h.own g1 s2
  have hnb : ∀ k, v.ownBlock = some k → Nbt w2 k := fun k hk => by
    obtain ⟨cur, hc⟩ := ow_ty ho2.1 hk
    exact Nbt.of hc (by decide)
  have sz : wr.heap.size ≤ w1.heap.size := g1.size
  have keepA : ∀ z ∈ A, Rq w3 z := fun z hz => (((h.rq z hz).1.keep (grown_fr g1) (fun k hk => by subst hk; exact h.nb)).still s2).keep hf hnb
  refine ⟨ranges_fr hf (ranges_fr s2 rg1 (fun e => e) (fun e => e)) h.vr.2 h.vr.1, ho, hv, ?_, fun z hz => ?_, ?_, ?_, h.rl⟩
  · rw [List.map_append, List.map_singleton, hy]
    have := (filt_step hu hx hl).map abP
    rw [List.map_append, List.map_singleton] at this
    exact (h.pm.append_right _).trans this
  · rcases List.mem_append.1 hz with hz | hz
    · exact ⟨keepA z hz, (h.rq z hz).2⟩
    · rw [List.mem_singleton] at hz
      subst hz
      exact ⟨hq.keep hf hnb, fun a ha => by have := hn a ha; have := h.st.size; omega⟩
  · refine List.pairwise_append.2 ⟨h.dj, List.pairwise_singleton .., fun a ha b hb => ?_⟩
    rw [List.mem_singleton] at hb
    subst hb
    intro c d hc hd e
    have h1 := (h.rq a ha).1.ow.lt c hc
    have h2 := hn d hd
    omega
  · exact Fr.trans ho2.2 hf (fun k hk e => by have := (ho2.1.block e).1; omega)
/-- what is handed out: parcels by rising numbers, each with bytes of its own in new memory -/
structure Fly (w w' : World) (v : Value) (L A : List Pcl) : Prop where
  ow : OwG KPl 43 w' w.heap.size v A
  ab : A.map abP = L.map abP
  rq : ∀ y ∈ A, Rq w' y ∧ ∀ a, y.ao = some a → w.heap.size ≤ a.block
  dj : A.Pairwise DjP
  st : Still w w'
theorem up_abs {L : List Pcl} (h : UpP L) : (L.map abP).Pairwise (fun a b => a.1 < b.1) := List.pairwise_map.2 (h.imp (fun {a b} h => h))
theorem Fl.done {w wr w' : World} {mb r : Nat} {la : Int} {L : List Pcl} {g cap : Nat} {left : Lit → Bool} {cnt : Nat} {A A' : List Pcl} (h : Fl w wr mb r la L (.slice (some ⟨g, 0, none⟩) A.length cap) left cnt A) (hu : UpP L) (hl : ∀ kl, left kl = false) (hp : A'.Perm A) (hs : A'.Pairwise (fun x y => x.no ≤ y.no)) (ho : OwG KPl 43 w' w.heap.size (.slice (some ⟨g, 0, none⟩) A.length cap) A') (hf : Fr (fun k => k = g) wr w') : Fly w w' (.slice (some ⟨g, 0, none⟩) A.length cap) L A' := by
  have e0 : L.filter (fun x => !left (.int .i64 x.no)) = L := List.filter_eq_self.2 (fun x _ => by simp [hl])
  have hpm := h.pm
  rw [e0] at hpm
  have hnb : ∀ k, k = g → Nbt wr k := fun k hk => by
    subst hk
    obtain ⟨cur, hc⟩ := ow_ty h.ow (k := k) rfl
    exact Nbt.of hc (by decide)
  refine ⟨ho, ?_, fun y hy => ?_, hp.symm.pairwise h.dj (fun {a b} h => h.symm), ?_⟩
  · refine List.Perm.eq_of_pairwise (le := fun a b => a.1 ≤ b.1) (fun a b ha hb h1 h2 => ?_) (List.pairwise_map.2 (hs.imp (fun {a b} h => h))) ((up_abs hu).imp (fun {a b} h => by omega)) ((hp.map abP).trans hpm)
    have ha' : a ∈ L.map abP := ((hp.map abP).trans hpm).mem_iff.1 ha
    obtain ⟨i, hi, rfl⟩ := List.getElem_of_mem ha'
    obtain ⟨j, hj, rfl⟩ := List.getElem_of_mem hb
    have hpw := List.pairwise_iff_getElem.1 (up_abs hu)
    rcases Nat.lt_trichotomy i j with h3 | h3 | h3
    · have := hpw i j hi hj h3; omega
    · subst h3; rfl
    · have := hpw j i hj hi h3; omega
  · have := h.rq y (hp.mem_iff.1 hy)
    exact ⟨this.1.keep hf hnb, this.2⟩
  · exact Fr.trans h.st hf (fun k hk e => by have := (h.ow.block (k := g) rfl).1; omega)
end Go.Proofs.Ytakdfckkljbghaa
