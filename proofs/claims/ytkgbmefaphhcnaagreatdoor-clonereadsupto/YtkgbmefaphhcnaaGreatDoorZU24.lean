/- Parts of the proof, laid end to end. -/
import Derived.Test.YtkgbmefaphhcnaaGreatDoorZU17
import Derived.Test.YtkgbmefaphhcnaaGreatDoorZU02
import Derived.Test.YtkgbmefaphhcnaaGreatDoorZU15
import Derived.Test.YtkgbmefaphhcnaaGreatDoorZU23
namespace Go.Proofs.YtkgbmefaphhcnaaGreatDoor
open Go.RowKit
open Pu Gp Ap Vp Np Za Ka Ja Ea Ha Wp
set_option maxRecDepth 100000
set_option linter.unusedVariables false
set_option linter.unusedSimpArgs false
theorem bs_cv14 {o : Oper} {ρ : Operand -> Value} {x : Operand} {s : Scr} (ho : o.op = .buildSlice 23 1 #[(0, x)]) (hx : ρ x = cv s) (u : World) : (execOp ρ o).run Tryz.prog u = .ok (.value (.slice (some ⟨u.heap.size, 0, none⟩) 1 1)) (u.alloc (.cells (ccs s) 57)) := by
 unfold execOp
 rw [ho]
 simp only [List.map_toArray, List.map_cons, List.map_nil, hx]
 go_simp
 try rfl
structure Gz (w u : World) (p L gw : Nat) (s : Rs) (fr nx : Int) (a b c d : Value) (ms : List Mv) (cs : List Scr) (hs : List Sh) (ks : List Pk) : Prop where
 oa : OwG KM 55 u w.heap.size a ms
 ob : OwG KC 57 u w.heap.size b cs
 oc : OwG KS 59 u w.heap.size c hs
 od : OwG KQ 61 u w.heap.size d ks
 wb : Wdb u gw fr nx a b c d
 r : Dq u p L s
 f : Fr (fun k => k = p) w u
 p : p < w.heap.size
 g : w.heap.size <= gw
theorem Gz.still {w u u' : World} {p L gw : Nat} {s : Rs} {fr nx : Int} {a b c d : Value} {ms : List Mv} {cs : List Scr} {hs : List Sh} {ks : List Pk} (h : Gz w u p L gw s fr nx a b c d ms cs hs ks) (k : Still u u') : Gz w u' p L gw s fr nx a b c d ms cs hs ks :=
 ⟨h.oa.still k, h.ob.still k, h.oc.still k, h.od.still k, h.wb.still k, h.r.still k, h.f.trans k (fun _ _ e => e.elim), h.p, h.g⟩
theorem Gz.like {w u : World} {p L gw : Nat} {s t : Rs} {fr nx : Int} {a b c d : Value} {ms : List Mv} {cs : List Scr} {hs : List Sh} {ks : List Pk} (h : Gz w u p L gw s fr nx a b c d ms cs hs ks) (h1 : t.bs = s.bs) (h2 : t.e = s.e) : Gz w u p L gw t fr nx a b c d ms cs hs ks :=
 ⟨h.oa, h.ob, h.oc, h.od, h.wb, h.r.like h1 h2, h.f, h.p, h.g⟩
theorem Gz.read {w u u' : World} {p L gw : Nat} {s t : Rs} {fr nx : Int} {a b c d : Value} {ms : List Mv} {cs : List Scr} {hs : List Sh} {ks : List Pk} (h : Gz w u p L gw s fr nx a b c d ms cs hs ks) (k : Td u u' p L t) : Gz w u' p L gw t fr nx a b c d ms cs hs ks := by
 have hF : ∀ j, j = p -> j < w.heap.size := fun j e => by rw [e]; exact h.p
 exact ⟨h.oa.keepB k.f hF, h.ob.keepB k.f hF, h.oc.keepB k.f hF, h.od.keepB k.f hF, k.f.kept h.wb (fun e => by have := h.p; have := h.g; omega), k.r, h.f.trans k.f (fun _ _ e => e), h.p, h.g⟩
theorem Gz.set {w u : World} {p L gw : Nat} {s : Rs} {fr nx fr' nx' : Int} {a b c d : Value} {ms : List Mv} {cs : List Scr} {hs : List Sh} {ks : List Pk} (h : Gz w u p L gw s fr nx a b c d ms cs hs ks) {i : Nat} {v : Value} (hw : Wdb (u.setCell ⟨gw, i, none⟩ v) gw fr' nx' a b c d) : Gz w (u.setCell ⟨gw, i, none⟩ v) p L gw s fr' nx' a b c d ms cs hs ks := by
 have ty := h.wb.ty
 have hf : Fr (fun k => k = gw) u (u.setCell ⟨gw, i, none⟩ v) := Fr.setCell (Fr.refl _ u) _ _ (.inl rfl)
 exact ⟨h.oa.setO ty (by decide) v, h.ob.setO ty (by decide) v, h.oc.setO ty (by decide) v, h.od.setO ty (by decide) v, hw, h.r.keep hf (fun k hk => ⟨wdcs fr nx a b c d, 27, (0, 0), by rw [hk]; exact h.wb, by decide, by decide⟩), h.f.trans hf (fun k hk e => by have := h.g; omega), h.p, h.g⟩
theorem Gz.app1 {w u : World} {p L gw : Nat} {s : Rs} {fr nx : Int} {a b c d : Value} {ms : List Mv} {cs : List Scr} {hs : List Sh} {ks : List Pk} (h : Gz w u p L gw s fr nx a b c d ms cs hs ks) {x : Mv} {v' : Value} {v0 : World} (ho : OwG KM 55 v0 w.heap.size v' (ms ++ [x])) (hf : Fr (fun k => a.ownBlock = some k) (u.alloc (.cells (mcs x) 55)) v0) : Gz w (v0.setCell ⟨gw, 1, none⟩ v') p L gw s fr nx v' b c d (ms ++ [x]) cs hs ks /\ Wdb v0 gw fr nx a b c d := by
 have A := Still.alloc u (.cells (mcs x) 55)
 have hT := (h.oa.still A).frT (ts := [55]) hf (Nat.le_refl _) (by simp)
 have hw := hT.kept (h.wb.still A) (by decide)
 have ty := Wdb.ty hw
 have hr : Dq v0 p L s := (h.r.still A).keep hf (fun k hk => by
  obtain ⟨cur, hc⟩ := (h.oa.still A).ty hk
  exact ⟨cur, _, _, hc, by decide, by decide⟩)
 have hF : Fr (fun k => k = p) w v0 := (h.f.alloc _).trans hf (fun k hk e => by
  have := ((h.oa.still A).block e).1
  omega)
 have hs2 : Fr (fun k => k = gw) v0 (v0.setCell ⟨gw, 1, none⟩ v') := Fr.setCell (Fr.refl _ v0) _ _ (.inl rfl)
 exact ⟨⟨ho.setO ty (by decide) v', ((h.ob.still A).keepT hT (by decide)).setO ty (by decide) v', ((h.oc.still A).keepT hT (by decide)).setO ty (by decide) v', ((h.od.still A).keepT hT (by decide)).setO ty (by decide) v', Wdb.s1 hw v', hr.keep hs2 (fun k hk => ⟨wdcs fr nx a b c d, 27, (0, 0), by rw [hk]; exact hw, by decide, by decide⟩), hF.trans hs2 (fun k hk e => by have := h.g; omega), h.p, h.g⟩, hw⟩
theorem Gz.app2 {w u : World} {p L gw : Nat} {s : Rs} {fr nx : Int} {a b c d : Value} {ms : List Mv} {cs : List Scr} {hs : List Sh} {ks : List Pk} (h : Gz w u p L gw s fr nx a b c d ms cs hs ks) {x : Scr} {v' : Value} {v0 : World} (ho : OwG KC 57 v0 w.heap.size v' (cs ++ [x])) (hf : Fr (fun k => b.ownBlock = some k) (u.alloc (.cells (ccs x) 57)) v0) : Gz w (v0.setCell ⟨gw, 2, none⟩ v') p L gw s fr nx a v' c d ms (cs ++ [x]) hs ks /\ Wdb v0 gw fr nx a b c d := by
 have A := Still.alloc u (.cells (ccs x) 57)
 have hT := (h.ob.still A).frT (ts := [57]) hf (Nat.le_refl _) (by simp)
 have hw := hT.kept (h.wb.still A) (by decide)
 have ty := Wdb.ty hw
 have hr : Dq v0 p L s := (h.r.still A).keep hf (fun k hk => by
  obtain ⟨cur, hc⟩ := (h.ob.still A).ty hk
  exact ⟨cur, _, _, hc, by decide, by decide⟩)
 have hF : Fr (fun k => k = p) w v0 := (h.f.alloc _).trans hf (fun k hk e => by
  have := ((h.ob.still A).block e).1
  omega)
 have hs2 : Fr (fun k => k = gw) v0 (v0.setCell ⟨gw, 2, none⟩ v') := Fr.setCell (Fr.refl _ v0) _ _ (.inl rfl)
 exact ⟨⟨((h.oa.still A).keepT hT (by decide)).setO ty (by decide) v', ho.setO ty (by decide) v', ((h.oc.still A).keepT hT (by decide)).setO ty (by decide) v', ((h.od.still A).keepT hT (by decide)).setO ty (by decide) v', Wdb.s2 hw v', hr.keep hs2 (fun k hk => ⟨wdcs fr nx a b c d, 27, (0, 0), by rw [hk]; exact hw, by decide, by decide⟩), hF.trans hs2 (fun k hk e => by have := h.g; omega), h.p, h.g⟩, hw⟩
theorem Gz.app3 {w u : World} {p L gw : Nat} {s : Rs} {fr nx : Int} {a b c d : Value} {ms : List Mv} {cs : List Scr} {hs : List Sh} {ks : List Pk} (h : Gz w u p L gw s fr nx a b c d ms cs hs ks) {x : Sh} {v' : Value} {v0 : World} (ho : OwG KS 59 v0 w.heap.size v' (hs ++ [x])) (hf : Fr (fun k => c.ownBlock = some k) (u.alloc (.cells (scs x) 59)) v0) : Gz w (v0.setCell ⟨gw, 3, none⟩ v') p L gw s fr nx a b v' d ms cs (hs ++ [x]) ks /\ Wdb v0 gw fr nx a b c d := by
 have A := Still.alloc u (.cells (scs x) 59)
 have hT := (h.oc.still A).frT (ts := [59]) hf (Nat.le_refl _) (by simp)
 have hw := hT.kept (h.wb.still A) (by decide)
 have ty := Wdb.ty hw
 have hr : Dq v0 p L s := (h.r.still A).keep hf (fun k hk => by
  obtain ⟨cur, hc⟩ := (h.oc.still A).ty hk
  exact ⟨cur, _, _, hc, by decide, by decide⟩)
 have hF : Fr (fun k => k = p) w v0 := (h.f.alloc _).trans hf (fun k hk e => by
  have := ((h.oc.still A).block e).1
  omega)
 have hs2 : Fr (fun k => k = gw) v0 (v0.setCell ⟨gw, 3, none⟩ v') := Fr.setCell (Fr.refl _ v0) _ _ (.inl rfl)
 exact ⟨⟨((h.oa.still A).keepT hT (by decide)).setO ty (by decide) v', ((h.ob.still A).keepT hT (by decide)).setO ty (by decide) v', ho.setO ty (by decide) v', ((h.od.still A).keepT hT (by decide)).setO ty (by decide) v', Wdb.s3 hw v', hr.keep hs2 (fun k hk => ⟨wdcs fr nx a b c d, 27, (0, 0), by rw [hk]; exact hw, by decide, by decide⟩), hF.trans hs2 (fun k hk e => by have := h.g; omega), h.p, h.g⟩, hw⟩
theorem Gz.app4 {w u : World} {p L gw : Nat} {s : Rs} {fr nx : Int} {a b c d : Value} {ms : List Mv} {cs : List Scr} {hs : List Sh} {ks : List Pk} (h : Gz w u p L gw s fr nx a b c d ms cs hs ks) {x : Pk} {v' : Value} {v0 : World} (ho : OwG KQ 61 v0 w.heap.size v' (ks ++ [x])) (hf : Fr (fun k => d.ownBlock = some k) (u.alloc (.cells (kcs x) 61)) v0) : Gz w (v0.setCell ⟨gw, 4, none⟩ v') p L gw s fr nx a b c v' ms cs hs (ks ++ [x]) /\ Wdb v0 gw fr nx a b c d := by
 have A := Still.alloc u (.cells (kcs x) 61)
 have hT := (h.od.still A).frT (ts := [61]) hf (Nat.le_refl _) (by simp)
 have hw := hT.kept (h.wb.still A) (by decide)
 have ty := Wdb.ty hw
 have hr : Dq v0 p L s := (h.r.still A).keep hf (fun k hk => by
  obtain ⟨cur, hc⟩ := (h.od.still A).ty hk
  exact ⟨cur, _, _, hc, by decide, by decide⟩)
 have hF : Fr (fun k => k = p) w v0 := (h.f.alloc _).trans hf (fun k hk e => by
  have := ((h.od.still A).block e).1
  omega)
 have hs2 : Fr (fun k => k = gw) v0 (v0.setCell ⟨gw, 4, none⟩ v') := Fr.setCell (Fr.refl _ v0) _ _ (.inl rfl)
 exact ⟨⟨((h.oa.still A).keepT hT (by decide)).setO ty (by decide) v', ((h.ob.still A).keepT hT (by decide)).setO ty (by decide) v', ((h.oc.still A).keepT hT (by decide)).setO ty (by decide) v', ho.setO ty (by decide) v', Wdb.s4 hw v', hr.keep hs2 (fun k hk => ⟨wdcs fr nx a b c d, 27, (0, 0), by rw [hk]; exact hw, by decide, by decide⟩), hF.trans hs2 (fun k hk e => by have := h.g; omega), h.p, h.g⟩, hw⟩
end Go.Proofs.YtkgbmefaphhcnaaGreatDoor
