/- What a step of the law does to the two ends in memory. -/
import Derived.Test.YtcmgghfjakphmaaLkw
namespace Go.Proofs.Ytcmgghfjakphmaa
open Go.RowKit
open Wp Vp Lp
set_option maxRecDepth 100000
set_option linter.unusedVariables false
set_option linter.unusedSimpArgs false

section
variable {w0 w w1 : World} {hb : Nat} {H : Hst} {LA L : List Cc} {m : Int} {S : List (Int × Nat)} {g gg : Nat} {mq : Int} {mt : Bool}
theorem HoM.aLay (h : HoM w0 w hb H LA L m S g gg mq mt) {ko' : Option Addr} {kc' : Nat} {LA' : List Cc} (l1 : Lkk w1 w0.heap.size H.pa H.ma ko' kc' (hA LA')) (f1 : Fr (fun k => k = H.pa ∨ Bl H.ko k) w w1) (hk : ∀ a, ko' = some a → Bl H.ko a.block ∨ w.heap.size ≤ a.block) : HoM w0 w1 hb ⟨H.pa, H.ma, ko', kc', H.pb, H.mb, H.lo, H.lc, H.so, H.sc, H.go, H.gc, H.Q⟩ LA' L m S g gg mq mt := by
  obtain ⟨n1, n2, n3, n4, n5, n6, n7, n8⟩ := h.ne
  have kc := fun k (e : Bl H.ko k) => h.cne (h.kty (.inl e)).1
  obtain ⟨es2, c2, hm2⟩ := h.lb.mp.map
  obtain ⟨p1, p2, p3, p4, p5⟩ := h.part f1 (fun e => by rcases e with e | e; exact n1 e.symm; exact n5 _ e rfl) (fun e => by rcases e with e | e; exact h.pp.1 e.symm; exact (kc _ e).2.2.1 rfl) (fun e => by rcases e with e | e; exact map_ne h.la.bk hm2 e.symm; exact (kc _ e).2.2.2.1 rfl)
    (fun k e e2 => by
      rcases e with e | e
      · subst e
        obtain ⟨cur, hc⟩ := ow_ty h.sw (Bl.own.2 e2)
        exact ty_ne hc h.la.bk (by decide) rfl
      · exact (kc k e).2.2.2.2.2 e2)
    (fun k e => by rcases e with e | e; exact e ▸ h.la.lp; exact (h.kty (.inl e)).2.1)
    (fun k e ht => by
      rcases e with e | e
      · subst e
        exact absurd rfl (h.cne ht).1
      · exact .inl e)
  have dk : ∀ k, Bl ko' k → ¬ Bl H.lo k ∧ ¬ Bl H.go k := fun k hk2 => by
    obtain ⟨a, ha, rfl⟩ := hk2
    rcases hk a ha with e | e
    · exact h.dj _ e
    · exact ⟨fun e2 => by have := (h.kty (.inr (.inl e2))).2.2; omega, fun e2 => by have := (h.kty (.inr (.inr e2))).2.2; omega⟩
  refine ⟨p1, l1, p2, h.lw.keep f1 (fun k e e2 => ?_), h.gw.keep f1 (fun k e e2 => ?_), h.gl, p3, h.ql, fun j hj => ?_, dk, h.dg, h.pp, h.hl, p4, h.i⟩
  · rcases e with e | e
    · exact (h.cne (h.kty (.inr (.inl (Bl.own.1 e2)))).1).1 e
    · exact (h.dj k e).1 (Bl.own.1 e2)
  · rcases e with e | e
    · exact (h.cne (h.kty (.inr (.inr (Bl.own.1 e2)))).1).1 e
    · exact (h.dj k e).2 (Bl.own.1 e2)
  · obtain ⟨a, b, c, d⟩ := p5 j hj
    refine ⟨a, b, c, fun x hx => ?_⟩
    obtain ⟨r1, r2, r3, r4⟩ := d x hx
    refine ⟨r1, r2, fun e => ?_, r4⟩
    obtain ⟨a', ha', e2⟩ := e
    rcases hk a' ha' with e3 | e3
    · exact r3 (by rw [← e2]; exact e3)
    · obtain ⟨_, ⟨cur, ht⟩, _⟩ := (h.qd j hj).2.2.2 x hx
      have := block_lt ht
      omega
/-- the row of what was laid goes on -/
theorem HoM.aLaid (h : HoM w0 w hb H LA L m S g gg mq mt) {c : Cc} {lo' : Option Addr} {lc' : Nat} (o1 : OwG KCc 47 w1 w0.heap.size (.slice lo' (L.length + 1) lc') (L ++ [c])) (f1 : Fr (fun k => Bl H.lo k) w w1) (hl : ∀ k, Bl lo' k → Bl H.lo k ∨ w.heap.size ≤ k) (hi : HoI (L ++ [c]) m S g mq) (hg : g ≤ L.length) : HoM w0 (w1.setCell ⟨hb, 2, none⟩ (.slice lo' (L.length + 1) lc')) hb ⟨H.pa, H.ma, H.ko, H.kc, H.pb, H.mb, lo', lc', H.so, H.sc, H.go, H.gc, H.Q⟩ LA (L ++ [c]) m S g gg mq mt := by
  have lc := fun k (e : Bl H.lo k) => h.cne (h.kty (.inr (.inl e))).1
  obtain ⟨p1, p2, p3, p4, p5⟩ := h.part f1 (fun e => (lc _ e).2.2.2.2.1 rfl) (fun e => (lc _ e).2.2.1 rfl) (fun e => (lc _ e).2.2.2.1 rfl) (fun k e e2 => (lc k e).2.2.2.2.2 e2) (fun k e => (h.kty (.inr (.inl e))).2.1) (fun k e _ => .inr (.inl e))
  have la1 : Lkk w1 w0.heap.size H.pa H.ma H.ko H.kc (hA LA) := h.la.keep f1 (fun e => (lc _ e).1 rfl) (fun e => (lc _ e).2.1 rfl) (fun a ha e => (h.dj _ ⟨a, ha, rfl⟩).1 e)
  have gw1 := h.gw.keep f1 (fun k e e2 => h.dg k e (Bl.own.1 e2))
  have newlo : ∀ k, Bl lo' k → (¬ Bl H.ko k ∧ ¬ Bl H.go k) := fun k e => by
    rcases hl k e with e2 | e2
    · exact ⟨fun e3 => (h.dj k e3).1 e2, h.dg k e2⟩
    · exact ⟨fun e3 => by have := (h.kty (.inl e3)).2.2; omega, fun e3 => by have := (h.kty (.inr (.inr e3))).2.2; omega⟩
  have lty : ∀ k, Bl lo' k → k ≠ hb := fun k e e2 => by
    obtain ⟨cur, hc⟩ := ow_ty o1 (Bl.own.2 e)
    subst e2
    exact ty_ne hc p1 (by decide) rfl
  obtain ⟨n1, n2, n3, n4, n5, n6, n7, n8⟩ := h.ne
  have f2 : Fr (fun k => k = hb) w1 (w1.setCell ⟨hb, 2, none⟩ (.slice lo' (L.length + 1) lc')) := Fr.setCell (Fr.refl _ _) _ _ (.inl rfl)
  have b2 := heap_setCell_same w1 hb 2 _ _ (.slice lo' (L.length + 1) lc') p1
  have eB : hB (L ++ [c]) g mq mt = hB L g mq mt := by unfold hB; rw [List.take_append_of_le_length hg]
  have hgl := h.gl
  refine ⟨b2.trans ?_, la1.keep f2 n1 n2 (fun a ha e => n5 _ ⟨a, ha, rfl⟩ e), ?_, ?_, ?_, by simp; omega, p3.keep f2 (fun k hk e => n8 k (Bl.own.1 e) hk), h.ql, fun j hj => ?_, fun k e => ⟨fun e2 => (newlo k e2).1 e, (h.dj k e).2⟩, fun k e => (newlo k e).2, h.pp, h.hl, Fr.trans p4 f2 (fun k hk e => by have := h.hl; omega), hi⟩
  · show _ = some (Obj.cells (hoc _ (L ++ [c]).length m S.length gg) _ _)
    rw [List.length_append, List.length_singleton]
    rfl
  · rw [eB]
    exact p2.keep f2 n3 n4 (fun a e => by cases e)
  · rw [List.length_append, List.length_singleton]
    exact o1.keep f2 (fun k hk e => lty k (Bl.own.1 e) hk)
  · rw [List.take_append_of_le_length hgl]
    exact gw1.keep f2 (fun k hk e => n7 k (Bl.own.1 e) hk)
  · obtain ⟨a, b, c', d⟩ := p5 j hj
    have hx2 : (S.getD j (0, 0)).2 ≤ L.length := by
      have := h.i.s1 (S.getD j (0, 0)) (by rw [List.getD_eq_getElem?_getD, List.getElem?_eq_getElem hj]; exact List.getElem_mem _)
      exact this.2.2.1
    rw [hD_snoc hx2]
    have hx : ∀ x, (dq H.Q j).co = some x → x.block ≠ hb := fun x hx e => by
      obtain ⟨_, ⟨cur, ht⟩, _⟩ := d x hx
      exact ty_ne ht p1 (by decide) e
    refine ⟨a, b, c'.kept f2 (fun x hx3 e => hx x hx3 e), fun x hx3 => ?_⟩
    obtain ⟨r1, ⟨cur, r2⟩, r3, r4, r5⟩ := d x hx3
    refine ⟨r1, ⟨cur, f2.kept r2 (hx x hx3)⟩, r3, fun e => ?_, r5⟩
    rcases hl _ e with e2 | e2
    · exact r4 e2
    · obtain ⟨_, ⟨cur2, ht⟩, _⟩ := (h.qd j hj).2.2.2 x hx3
      have := block_lt ht
      omega
/-- a Turn was made and is kept -/
theorem HoM.aSent (h : HoM w0 w hb H LA L m S g gg mq mt) {x : Dq} {so' : Option Addr} {sc' : Nat} (hxd : x.d = hD L (m, L.length)) (hxn : x.cn = L.length) (hxr : SrG KCc w x.co x.cp L) (hxb : ∀ a, x.co = some a → w0.heap.size ≤ a.block ∧ (∃ cur, w.heap[a.block]? = some (.cells cur 47 (0, 0))) ∧ ¬ Bl H.ko a.block ∧ ¬ Bl H.lo a.block ∧ ¬ Bl H.go a.block)
    (o1 : OwG KDq 51 w1 w0.heap.size (.slice so' (S.length + 1) sc') (H.Q ++ [x])) (f1 : Fr (fun k => Bl H.so k) w w1) : HoM w0 (w1.setCell ⟨hb, 4, none⟩ (.slice so' (S.length + 1) sc')) hb ⟨H.pa, H.ma, H.ko, H.kc, H.pb, H.mb, H.lo, H.lc, so', sc', H.go, H.gc, H.Q ++ [x]⟩ LA L m (S ++ [(m, L.length)]) g gg mq mt := by
  obtain ⟨n1, n2, n3, n4, n5, n6, n7, n8⟩ := h.ne
  have sty : ∀ k, Bl H.so k → ∃ cur, w.heap[k]? = some (.cells cur 51 (0, 0)) := fun k e => ow_ty h.sw (Bl.own.2 e)
  obtain ⟨es, cc1, hm⟩ := h.la.mp.map
  obtain ⟨es2, cc2, hm2⟩ := h.lb.mp.map
  have sn : ∀ k, Bl H.so k → k ≠ H.pa ∧ k ≠ H.ma ∧ k ≠ H.pb ∧ k ≠ H.mb ∧ ∀ cur, w.heap[k]? ≠ some (.cells cur 47 (0, 0)) := fun k e => by
    obtain ⟨cur, hc⟩ := sty k e
    exact ⟨ty_ne hc h.la.bk (by decide), map_ne hc hm, ty_ne hc h.lb.bk (by decide), map_ne hc hm2, fun cur2 h2 => ty_ne hc h2 (by decide) rfl⟩
  have sb : ∀ k, Bl H.so k → w0.heap.size ≤ k := fun k e => (h.sw.block (Bl.own.2 e)).1
  have b1 := f1.kept h.bk (fun e => n8 hb e rfl)
  have la1 := h.la.keep f1 (fun e => (sn _ e).1 rfl) (fun e => (sn _ e).2.1 rfl) (fun a ha e => (sn _ e).2.2.2.2 _ (h.la.kp.bl a ha).2.choose_spec)
  have lb1 := h.lb.keep f1 (fun e => (sn _ e).2.2.1 rfl) (fun e => (sn _ e).2.2.2.1 rfl) (fun a e => by cases e)
  have lw1 := h.lw.keep f1 (fun k e e2 => (sn k e).2.2.2.2 _ (ow_ty h.lw e2).choose_spec)
  have gw1 := h.gw.keep f1 (fun k e e2 => (sn k e).2.2.2.2 _ (ow_ty h.gw e2).choose_spec)
  have st1 : Still w0 w1 := Fr.trans h.st f1 (fun k hk e => by have := sb k e; omega)
  have f2 : Fr (fun k => k = hb) w1 (w1.setCell ⟨hb, 4, none⟩ (.slice so' (S.length + 1) sc')) := Fr.setCell (Fr.refl _ _) _ _ (.inl rfl)
  have b2 := heap_setCell_same w1 hb 4 _ _ (.slice so' (S.length + 1) sc') b1
  have kept : ∀ {co : Option Addr} {cp : Nat} {M : List Cc}, SrG KCc w co cp M → (∀ a, co = some a → ∃ cur, w.heap[a.block]? = some (.cells cur 47 (0, 0))) → SrG KCc (w1.setCell ⟨hb, 4, none⟩ (.slice so' (S.length + 1) sc')) co cp M ∧ ∀ a, co = some a → ∃ cur, (w1.setCell ⟨hb, 4, none⟩ (.slice so' (S.length + 1) sc')).heap[a.block]? = some (.cells cur 47 (0, 0)) := fun {co} {cp} {M} hs ht => by
    have t1 : ∀ a : Addr, co = some a → ¬ Bl H.so a.block := fun a ha e => by obtain ⟨cur, hc⟩ := ht a ha; exact (sn _ e).2.2.2.2 cur hc
    have t2 : ∀ a : Addr, co = some a → a.block ≠ hb := fun a ha e => by obtain ⟨cur, hc⟩ := ht a ha; exact ty_ne hc h.bk (by decide) e
    refine ⟨(hs.kept f1 (fun a ha e => t1 a ha e)).kept f2 (fun a ha e => t2 a ha e), fun a ha => ?_⟩
    obtain ⟨cur, hc⟩ := ht a ha
    exact ⟨cur, f2.kept (f1.kept hc (t1 a ha)) (t2 a ha)⟩
  refine ⟨b2.trans ?_, la1.keep f2 n1 n2 (fun a ha e => n5 _ ⟨a, ha, rfl⟩ e), lb1.keep f2 n3 n4 (fun a e => by cases e), lw1.keep f2 (fun k hk e => n6 k (Bl.own.1 e) hk), gw1.keep f2 (fun k hk e => n7 k (Bl.own.1 e) hk), h.gl, ?_, by simp [h.ql], fun j hj => ?_, h.dj, h.dg, h.pp, h.hl, Fr.trans st1 f2 (fun k hk e => by have := h.hl; omega), h.i.send⟩
  · show _ = some (Obj.cells (hoc _ L.length m (S ++ [(m, L.length)]).length gg) _ _)
    rw [List.length_append, List.length_singleton]
    rfl
  · rw [List.length_append, List.length_singleton]
    refine o1.keep f2 (fun k hk e => ?_)
    obtain ⟨cur, hc⟩ := ow_ty o1 e
    subst hk
    exact ty_ne hc b1 (by decide) rfl
  · rw [List.length_append, List.length_singleton] at hj
    by_cases e : j < S.length
    · have e1 : dq (H.Q ++ [x]) j = dq H.Q j := by unfold dq; rw [List.getD_eq_getElem?_getD, List.getElem?_append_left (by rw [h.ql]; exact e), ← List.getD_eq_getElem?_getD]
      have e2 : (S ++ [(m, L.length)]).getD j (0, 0) = S.getD j (0, 0) := by rw [List.getD_eq_getElem?_getD, List.getElem?_append_left e, ← List.getD_eq_getElem?_getD]
      show (dq (H.Q ++ [x]) j).d = _ ∧ _
      rw [e1, e2]
      obtain ⟨a, b, c, d⟩ := h.qd j e
      obtain ⟨k1, k2⟩ := kept c (fun a ha => (d a ha).2.1)
      exact ⟨a, b, k1, fun y hy => ⟨(d y hy).1, k2 y hy, (d y hy).2.2⟩⟩
    · obtain rfl : j = S.length := by omega
      have e1 : dq (H.Q ++ [x]) S.length = x := by unfold dq; rw [← h.ql, List.getD_eq_getElem?_getD, List.getElem?_append_right (Nat.le_refl _)]; simp
      have e2 : (S ++ [(m, L.length)]).getD S.length (0, 0) = (m, L.length) := by rw [List.getD_eq_getElem?_getD, List.getElem?_append_right (Nat.le_refl _)]; simp
      show (dq (H.Q ++ [x]) S.length).d = _ ∧ _
      rw [e1, e2]
      obtain ⟨k1, k2⟩ := kept hxr (fun a ha => (hxb a ha).2.1)
      exact ⟨hxd, hxn, by show SrG KCc _ _ _ (L.take L.length); rw [List.take_length]; exact k1, fun y hy => ⟨(hxb y hy).1, k2 y hy, (hxb y hy).2.2⟩⟩
/-- a datagram was taken -/
theorem HoM.aTake (h : HoM w0 w hb H LA L m S g gg mq mt) {g' : Nat} {mq' : Int} {mt' : Bool} (l1 : Lkk w1 w0.heap.size H.pb H.mb none 0 (hB L g' mq' mt')) (f1 : Fr (fun k => k = H.pb ∨ k = H.mb) w w1) (hi : HoI L m S g' mq') : HoM w0 w1 hb H LA L m S g' gg mq' mt' := by
  obtain ⟨n1, n2, n3, n4, n5, n6, n7, n8⟩ := h.ne
  obtain ⟨es, cc1, hm⟩ := h.la.mp.map
  obtain ⟨es2, cc2, hm2⟩ := h.lb.mp.map
  have cn := fun k (e : Bl H.ko k ∨ Bl H.lo k ∨ Bl H.go k) => h.cne (h.kty e).1
  have hF : ∀ k, (k = H.pb ∨ k = H.mb) → w0.heap.size ≤ k ∧ ∀ cur, w.heap[k]? ≠ some (.cells cur 47 (0, 0)) := fun k e => by
    rcases e with rfl | rfl
    · exact ⟨h.lb.lp, fun cur hc => ty_ne hc h.lb.bk (by decide) rfl⟩
    · exact ⟨h.lb.lm, fun cur hc => by rw [hm2] at hc; cases hc⟩
  refine ⟨f1.kept h.bk (fun e => by rcases e with e | e; exact n3 e.symm; exact n4 e.symm), h.la.keep f1 (fun e => by rcases e with e | e; exact h.pp.1 e; exact map_ne h.la.bk hm2 e) (fun e => by rcases e with e | e; exact map_ne h.lb.bk hm e.symm; exact h.pp.2 e) (fun a ha e => ?_), l1, h.lw.keep f1 (fun k e e2 => ?_), h.gw.keep f1 (fun k e e2 => ?_), h.gl, h.sw.keep f1 (fun k e e2 => ?_), h.ql, fun j hj => ?_, h.dj, h.dg, h.pp, h.hl, Fr.trans h.st f1 (fun k hk e => by have := (hF k e).1; omega), hi⟩
  · exact (hF _ e).2 _ (h.la.kp.bl a ha).2.choose_spec
  · exact (hF k e).2 _ (ow_ty h.lw e2).choose_spec
  · exact (hF k e).2 _ (ow_ty h.gw e2).choose_spec
  · obtain ⟨cur, hc⟩ := ow_ty h.sw e2
    rcases e with rfl | rfl
    · exact ty_ne hc h.lb.bk (by decide) rfl
    · rw [hm2] at hc; cases hc
  · obtain ⟨a, b, c, d⟩ := h.qd j hj
    have hx : ∀ x, (dq H.Q j).co = some x → ¬ (x.block = H.pb ∨ x.block = H.mb) := fun x hx e => by
      obtain ⟨_, ⟨cur, ht⟩, _⟩ := d x hx
      exact (hF _ e).2 cur ht
    refine ⟨a, b, c.kept f1 (fun x hx3 e => hx x hx3 e), fun x hx3 => ?_⟩
    obtain ⟨r1, ⟨cur, r2⟩, r3⟩ := d x hx3
    exact ⟨r1, ⟨cur, f1.kept r2 (hx x hx3)⟩, r3⟩
/-- what came is kept -/
theorem HoM.aGot (h : HoM w0 w hb H LA L m S g gg mq mt) {go' : Option Addr} {gc' : Nat} (o1 : OwG KCc 47 w1 w0.heap.size (.slice go' g gc') (L.take g)) (f1 : Fr (fun k => Bl H.go k) w w1) (hl : ∀ k, Bl go' k → Bl H.go k ∨ w.heap.size ≤ k) : HoM w0 (w1.setCell ⟨hb, 5, none⟩ (.slice go' g gc')) hb ⟨H.pa, H.ma, H.ko, H.kc, H.pb, H.mb, H.lo, H.lc, H.so, H.sc, go', gc', H.Q⟩ LA L m S g g mq mt := by
  have lc := fun k (e : Bl H.go k) => h.cne (h.kty (.inr (.inr e))).1
  obtain ⟨p1, p2, p3, p4, p5⟩ := h.part f1 (fun e => (lc _ e).2.2.2.2.1 rfl) (fun e => (lc _ e).2.2.1 rfl) (fun e => (lc _ e).2.2.2.1 rfl) (fun k e e2 => (lc k e).2.2.2.2.2 e2) (fun k e => (h.kty (.inr (.inr e))).2.1) (fun k e _ => .inr (.inr e))
  have la1 : Lkk w1 w0.heap.size H.pa H.ma H.ko H.kc (hA LA) := h.la.keep f1 (fun e => (lc _ e).1 rfl) (fun e => (lc _ e).2.1 rfl) (fun a ha e => (h.dj _ ⟨a, ha, rfl⟩).2 e)
  have lw1 := h.lw.keep f1 (fun k e e2 => h.dg k (Bl.own.1 e2) e)
  have newgo : ∀ k, Bl go' k → (¬ Bl H.ko k ∧ ¬ Bl H.lo k) := fun k e => by
    rcases hl k e with e2 | e2
    · exact ⟨fun e3 => (h.dj k e3).2 e2, fun e3 => h.dg k e3 e2⟩
    · exact ⟨fun e3 => by have := (h.kty (.inl e3)).2.2; omega, fun e3 => by have := (h.kty (.inr (.inl e3))).2.2; omega⟩
  have lty : ∀ k, Bl go' k → k ≠ hb := fun k e e2 => by
    obtain ⟨cur, hc⟩ := ow_ty o1 (Bl.own.2 e)
    subst e2
    exact ty_ne hc p1 (by decide) rfl
  obtain ⟨n1, n2, n3, n4, n5, n6, n7, n8⟩ := h.ne
  have f2 : Fr (fun k => k = hb) w1 (w1.setCell ⟨hb, 5, none⟩ (.slice go' g gc')) := Fr.setCell (Fr.refl _ _) _ _ (.inl rfl)
  have b2 := heap_setCell_same w1 hb 5 _ _ (.slice go' g gc') p1
  refine ⟨b2.trans (by rfl), la1.keep f2 n1 n2 (fun a ha e => n5 _ ⟨a, ha, rfl⟩ e), p2.keep f2 n3 n4 (fun a e => by cases e), lw1.keep f2 (fun k hk e => n6 k (Bl.own.1 e) hk), o1.keep f2 (fun k hk e => lty k (Bl.own.1 e) hk), h.i.g1, p3.keep f2 (fun k hk e => n8 k (Bl.own.1 e) hk), h.ql, fun j hj => ?_, fun k e => ⟨(h.dj k e).1, fun e2 => (newgo k e2).1 e⟩, fun k e e2 => (newgo k e2).2 e, h.pp, h.hl, Fr.trans p4 f2 (fun k hk e => by have := h.hl; omega), h.i⟩
  obtain ⟨a, b, c', d⟩ := p5 j hj
  have hx : ∀ x, (dq H.Q j).co = some x → x.block ≠ hb := fun x hx e => by
    obtain ⟨_, ⟨cur, ht⟩, _⟩ := d x hx
    exact ty_ne ht p1 (by decide) e
  refine ⟨a, b, c'.kept f2 (fun x hx3 e => hx x hx3 e), fun x hx3 => ?_⟩
  obtain ⟨r1, ⟨cur, r2⟩, r3, r4, r5⟩ := d x hx3
  refine ⟨r1, ⟨cur, f2.kept r2 (hx x hx3)⟩, r3, r4, fun e => ?_⟩
  rcases hl _ e with e2 | e2
  · exact r5 e2
  · obtain ⟨_, ⟨cur2, ht⟩, _⟩ := (h.qd j hj).2.2.2 x hx3
    have := block_lt ht
    omega
end
end Go.Proofs.Ytcmgghfjakphmaa
