/- QueueParts. -/
import Derived.Test.YtgpmjlibanoapaaQux
import Derived.Test.YtgpmjlibanoapaaQuq
namespace Go.Proofs.Ytgpmjlibanoapaa
open Go.RowKit
set_option maxRecDepth 100000

/-- of two that have come out in order of the same, the shorter one begins the longer one -/
theorem cm_pre : ∀ (A O X Y : List En), (A ++ X).Perm (O ++ Y) → Srt A → (∀ a ∈ A, ∀ x ∈ X, kc a x < 0) → Srt O → (∀ o ∈ O, ∀ y ∈ Y, kc o y < 0) → A.length ≤ O.length → A = O.take A.length
  | [], _, _, _, _, _, _, _, _, _ => by simp
  | a :: A, [], _, _, _, _, _, _, _, h => by simp at h
  | a :: A, o :: O, X, Y, hp, h1, h2, h3, h4, hl => by
    have hao : ∀ z ∈ A ++ X, kc a z < 0 := fun z hz => by
      rcases List.mem_append.1 hz with h | h
      · exact (List.pairwise_cons.1 h1).1 z h
      · exact h2 a (List.mem_cons_self ..) z h
    have hoa : ∀ z ∈ O ++ Y, kc o z < 0 := fun z hz => by
      rcases List.mem_append.1 hz with h | h
      · exact (List.pairwise_cons.1 h3).1 z h
      · exact h4 o (List.mem_cons_self ..) z h
    have e : a = o := by
      have ha : a ∈ o :: (O ++ Y) := hp.mem_iff.1 (List.mem_cons_self ..)
      have ho : o ∈ a :: (A ++ X) := hp.mem_iff.2 (List.mem_cons_self ..)
      rcases List.mem_cons.1 ha with e | ha'
      · exact e
      · rcases List.mem_cons.1 ho with e | ho'
        · exact e.symm
        · exact (kc_asym (hao o ho') (hoa a ha')).elim
    subst e
    have := cm_pre A O X Y hp.cons_inv (List.pairwise_cons.1 h1).2 (fun b hb => h2 b (List.mem_cons_of_mem _ hb)) (List.pairwise_cons.1 h3).2 (fun b hb => h4 b (List.mem_cons_of_mem _ hb)) (by simpa using hl)
    simp only [List.length_cons, List.take_succ_cons]
    rw [← this]
/-- the next one that comes out of a heap -/
theorem cm_next {M O Y A X X' : List En} {x : En} (hO : Cm M O Y) (hA : Cm M A X) (hp : X.Perm (x :: X')) (hx : ∀ y ∈ X', kc x y < 0) (hl : A.length < O.length) : x = att O A.length := by
  have h := hA.step hp hx
  have e := cm_pre (A ++ [x]) O X' Y (h.pm.symm.trans hO.pm) h.sr h.ah hO.sr hO.ah (by simp; omega)
  have e2 : (A ++ [x])[A.length]? = (O.take (A ++ [x]).length)[A.length]? := by rw [← e]
  rw [List.getElem?_append_right (Nat.le_refl _), Nat.sub_self] at e2
  rw [List.getElem?_take_of_lt (by simp)] at e2
  unfold att
  rw [List.getD_eq_getElem?_getD, ← e2]
  rfl
theorem cm_rest {M O Y A X : List En} (hO : Cm M O Y) (hA : Cm M A X) (hl : A.length = O.length) : X.Perm Y := by
  have e := cm_pre A O X Y (hA.pm.symm.trans hO.pm) hA.sr hA.ah hO.sr hO.ah (by omega)
  rw [hl, List.take_length] at e
  subst e
  exact (List.perm_append_left_iff A).1 (hA.pm.symm.trans hO.pm)
/-- two queues, the second one in newer memory -/
structure Tq (w wr : World) (s1 s2 p : Nat) (v : Value) (M : List En) (p' : Nat) (v' : Value) (M' : List En) : Prop where
  q : Qk wr w.heap.size p v M
  c : Qk wr s1 p' v' M'
  hp : p < s1
  hv : ∀ k, v.ownBlock = some k → k < s1
  hp' : p' < s2
  hv' : ∀ k, v'.ownBlock = some k → k < s2
  m : Qu M
  m' : Qu M'
  s : Still w wr
  b : w.heap.size ≤ s1
theorem Tq.still {w wr w' : World} {s1 s2 p p' : Nat} {v v' : Value} {M M' : List En} (h : Tq w wr s1 s2 p v M p' v' M') (hs : Still wr w') : Tq w w' s1 s2 p v M p' v' M' :=
  ⟨h.q.still hs, h.c.still hs, h.hp, h.hv, h.hp', h.hv', h.m, h.m', h.s.trans hs, h.b⟩
theorem Tq.first {w wr w' : World} {s1 s2 p p' : Nat} {v v' v2 : Value} {M M' M2 : List En} (h : Tq w wr s1 s2 p v M p' v' M') (hq : Qk w' w.heap.size p v2 M2) (hm : Qu M2) (hf : Fr (fun k => k = p ∨ v.ownBlock = some k) wr w') (hb : v2.ownBlock = v.ownBlock) : Tq w w' s1 s2 p v2 M2 p' v' M' := by
  have hlt : ∀ k, (k = p ∨ v.ownBlock = some k) → k < s1 := fun k hk => by
    rcases hk with rfl | hk
    · exact h.hp
    · exact h.hv k hk
  refine ⟨hq, h.c.keep hf (fun e => ?_) (fun k hk e => ?_), h.hp, fun k hk => h.hv k (by rw [← hb]; exact hk), h.hp', h.hv', hm, h.m', h.q.stl h.s (Nat.le_refl _) hf, h.b⟩
  · have := hlt p' e; have := h.c.lo; omega
  · have := hlt k hk; have := (h.c.ow.block e).1; omega
theorem Tq.second {w wr w' : World} {s1 s2 p p' : Nat} {v v' v2 : Value} {M M' M2 : List En} (h : Tq w wr s1 s2 p v M p' v' M') (hq : Qk w' s1 p' v2 M2) (hm : Qu M2) (hf : Fr (fun k => k = p' ∨ v'.ownBlock = some k) wr w') (hb : v2.ownBlock = v'.ownBlock) : Tq w w' s1 s2 p v M p' v2 M2 := by
  have hlt : ∀ k, (k = p' ∨ v'.ownBlock = some k) → s1 ≤ k := fun k hk => by
    rcases hk with rfl | hk
    · exact h.c.lo
    · exact (h.c.ow.block hk).1
  refine ⟨h.q.keep hf (fun e => ?_) (fun k hk e => ?_), hq, h.hp, h.hv, h.hp', fun k hk => h.hv' k (by rw [← hb]; exact hk), h.m, hm, h.c.stl h.s h.b hf, h.b⟩
  · have := hlt p e; have := h.hp; omega
  · have := hlt k hk; have := h.hv k e; omega
/-- a third one in memory that is newer still -/
theorem Tq.row1 {w wr w' : World} {s1 s2 p p' : Nat} {v v' u : Value} {M M' O : List En} (h : Tq w wr s1 s2 p v M p' v' M') (ho : OwG KE 38 wr s2 u O) (hs : s1 ≤ s2) (hf : Fr (fun k => k = p ∨ v.ownBlock = some k) wr w') : OwG KE 38 w' s2 u O :=
  ho.keep hf (fun k hk e => by
    have := (ho.block e).1
    rcases hk with rfl | hk
    · have := h.hp; omega
    · have := h.hv k hk; omega)
theorem Tq.row2 {w wr w' : World} {s1 s2 p p' : Nat} {v v' u : Value} {M M' O : List En} (h : Tq w wr s1 s2 p v M p' v' M') (ho : OwG KE 38 wr s2 u O) (hf : Fr (fun k => k = p' ∨ v'.ownBlock = some k) wr w') : OwG KE 38 w' s2 u O :=
  ho.keep hf (fun k hk e => by
    have := (ho.block e).1
    rcases hk with rfl | hk
    · have := h.hp'; omega
    · have := h.hv' k hk; omega)
end Go.Proofs.Ytgpmjlibanoapaa
