/- Pickups in memory: a block, a slice that is read, a row that is owned. -/
import Derived.Test.YtdljmpjfiggdiaaDoorKa
import Derived.Test.YtdljmpjfiggdiaaDoorK8
import Derived.Test.YtdljmpjfiggdiaaDoorK4
import Derived.Deep.OwnRows
import Derived.Laws.CopyRow
import Derived.Laws.OwnMore
namespace Go.Proofs.YtdljmpjfiggdiaaDoor
open Go.RowKit
open Pu Gp Np Ka
set_option maxRecDepth 100000

/-- a pickup's cells -/
abbrev kcs (x : Pk) : Array Value := #[.int .i64 x.no, .int .i64 x.sp, .int .i64 x.kd]
/-- a pickup as a value -/
abbrev kv (x : Pk) : Value := .agg (kcs x)
/-- block g holds a pickup -/
def Kb (w : World) (g : Nat) (x : Pk) : Prop := w.heap[g]? = some (.cells (kcs x) 155 (0, 0))
theorem Kb.still {w w' : World} {g : Nat} {x : Pk} (h : Kb w g x) (hs : Still w w') : Kb w' g x := hs.kept_still h
theorem Kb.lt {w : World} {g : Nat} {x : Pk} (h : Kb w g x) : g < w.heap.size := block_lt h
theorem Kb.cells {w : World} {g : Nat} {x : Pk} (h : Kb w g x) : w.cell? ⟨g, 0, none⟩ = some (.int .i64 x.no) ∧ w.cell? ⟨g, 1, none⟩ = some (.int .i64 x.sp) ∧ w.cell? ⟨g, 2, none⟩ = some (.int .i64 x.kd) ∧ ∀ o, w.frozen? ⟨g, o, none⟩ = false := by
  refine ⟨?_, ?_, ?_, fun o => frozen_of_row w g o _ _ h⟩ <;> (rw [cell_of_row _ _ _ _ _ _ h]; rfl)
abbrev newK (w : World) (x : Pk) : World := w.alloc (.cells (kcs x) 155)
theorem newK_kb (w : World) (x : Pk) : Kb (newK w x) w.heap.size x := heap_alloc_new w _
theorem Kb.put {w : World} {g : Nat} {x : Pk} (h0 : Kb w g x) (a b c : Int) : Kb (((w.setCell ⟨g, 0, none⟩ (.int .i64 a)).setCell ⟨g, 1, none⟩ (.int .i64 b)).setCell ⟨g, 2, none⟩ (.int .i64 c)) g ⟨a, b, c⟩ := by
  unfold Kb at h0 ⊢
  have h1 := heap_setCell_same _ g 0 _ _ (.int .i64 a) h0
  have h2 := heap_setCell_same _ g 1 _ _ (.int .i64 b) h1
  have h3 := heap_setCell_same _ g 2 _ _ (.int .i64 c) h2
  exact h3.trans (by kernel_rfl)
theorem Kb.other {w : World} {g : Nat} {x : Pk} (h : Kb w g x) (k o : Nat) (v : Value) (hk : g ≠ k) : Kb (w.setCell ⟨k, o, none⟩ v) g x := by
  unfold Kb at h ⊢
  rw [heap_setCell_other _ _ _ _ hk]
  exact h
theorem Kb.load {w : World} {g : Nat} {x : Pk} (h : Kb w g x) : (loadVar 155 ⟨g, 0, none⟩).run Tryd.prog w = .ok (kv x) w := by
  obtain ⟨c0, c1, c2, cf⟩ := h.cells
  go_simp
theorem Kb.rest3 {fn : Func} {p q r : Tmp} {w : World} {g : Nat} {x : Pk} (hb : Kb w g x) (h : fn.results = #[.cell p 155, .tmp q, .tmp r]) (tmps : Array Value) (t s : Value) (hp : tmps.getD p undef = .pointer (some ⟨g, 0, none⟩)) (hq : tmps.getD q undef = t) (hr : tmps.getD r undef = s) :
    (results fn tmps).run Tryd.prog w = .ok (.tuple #[kv x, t, s]) w := by
  rw [results3 h, hp, hq, hr]
  simp [asAddr, Result.andThen, hb.load]
/-- are two pickups the same -/
def eqK (x y : Pk) : Bool := (x.no == y.no) && ((x.sp == y.sp) && (x.kd == y.kd))
theorem eqK_refl (x : Pk) : eqK x x = true := by unfold eqK; simp
theorem kpart_in (x : Pk) (w : World) : (part 3 (kcs x) 0).run Tryd.prog w = .ok (.int .i64 x.no) w ∧ (part 3 (kcs x) 1).run Tryd.prog w = .ok (.int .i64 x.sp) w ∧ (part 3 (kcs x) 2).run Tryd.prog w = .ok (.int .i64 x.kd) w := by
  refine ⟨?_, ?_, ?_⟩ <;> go_simp
theorem equal_kv (x y : Pk) (w : World) : (Op.equalIn 10000 155 (kv x) (kv y)).run Tryd.prog w = .ok (eqK x y) w := by
  have c0 := fun w => (kpart_in x w).1
  have d0 := fun w => (kpart_in y w).1
  have r0 := fun w => equal_int 9998 x.no y.no w
  have c1 := fun w => (kpart_in x w).2.1
  have d1 := fun w => (kpart_in y w).2.1
  have r1 := fun w => equal_int 9998 x.sp y.sp w
  have c2 := fun w => (kpart_in x w).2.2
  have d2 := fun w => (kpart_in y w).2.2
  have r2 := fun w => equal_int 9998 x.kd y.kd w
  rw [run_equalIn_struct w 9999 _ _ _ (by kernel_rfl) (by kernel_rfl)]
  have e : (Tryd.prog.fieldsOf 155) = #[⟨ "No", 3, 0, false, "", "", 0⟩, ⟨ "Spot", 3, 1, false, "", "", 8⟩, ⟨ "Kind", 3, 2, false, "", "", 16⟩] := by kernel_rfl
  rw [e]
  simp only [Op.eqFields, ne_eq, String.reduceEq, not_false_eq_true, if_true, Sem.run_bind, c0, c1, c2, d0, d1, d2, Result.andThen_ok, r0, r1, r2, Sem.run_ite, Sem.run_pure]
  unfold eqK
  exact st (st (st1 _))
theorem eql_kv (x y : Pk) (w : World) : (binOp .eql 155 (kv x) (kv y)).run Tryd.prog w = .ok (.bool (eqK x y)) w := by
  rw [run_eql_struct, equal_kv]; rfl
theorem neq_kv (x y : Pk) (w : World) : (binOp .neq 155 (kv x) (kv y)).run Tryd.prog w = .ok (.bool (!eqK x y)) w := by
  rw [run_neq_struct, equal_kv]; rfl
theorem eql_kv_t (x : Pk) (w : World) : (binOp .eql 155 (kv x) (kv x)).run Tryd.prog w = .ok (.bool true) w := by
  rw [eql_kv, eqK_refl]
theorem neq_kv_f (x : Pk) (w : World) : (binOp .neq 155 (kv x) (kv x)).run Tryd.prog w = .ok (.bool false) w := by
  rw [neq_kv, eqK_refl]; rfl
theorem guard_kv (op : BinOp) (a b : Operand) (xs ys : Array Value) (w : World) : (eqGuard op 155 a b (.agg xs) (.agg ys)).run Tryd.prog w = .ok () w := run_eqGuard_agg w op _ a b xs ys (by kernel_rfl)
/-- a slice of n reads these pickups -/
def RdK (w : World) (ao : Option Addr) (n : Nat) (L : List Pk) : Prop := L.length = n ∧ n ≤ 281474976710656 ∧ (n = 0 ∨ ∃ B o, ao = some ⟨B, o, none⟩ ∧ ∀ i, i < n → w.cell? ⟨B, o + i * 3, none⟩ = some (.int .i64 (pk L i).no) ∧ w.cell? ⟨B, o + i * 3 + 1, none⟩ = some (.int .i64 (pk L i).sp) ∧ w.cell? ⟨B, o + i * 3 + 2, none⟩ = some (.int .i64 (pk L i).kd))
theorem RdK.nil (w : World) (ao : Option Addr) : RdK w ao 0 [] := ⟨rfl, by omega, .inl rfl⟩
theorem RdK.still {w w' : World} {ao : Option Addr} {n : Nat} {L : List Pk} (h : RdK w ao n L) (hs : Still w w') : RdK w' ao n L := by
  refine ⟨h.1, h.2.1, ?_⟩
  rcases h.2.2 with h0 | ⟨B, o, e, hc⟩
  · exact .inl h0
  · have on : ∀ {p : Addr} {x : Value}, w.cell? p = some x → w'.cell? p = some x := fun hp => (hs.cell (World.block_lt_of_cell? w _ hp) (fun e => e)).trans hp
    exact .inr ⟨B, o, e, fun i hi => ⟨on (hc i hi).1, on (hc i hi).2.1, on (hc i hi).2.2⟩⟩
theorem RdK.at {w : World} {ao : Option Addr} {n : Nat} {L : List Pk} (h : RdK w ao n L) (hn : 0 < n) : ∃ B o, ao = some ⟨B, o, none⟩ ∧ ∀ i, i < n → w.cell? ⟨B, o + i * 3, none⟩ = some (.int .i64 (pk L i).no) ∧ w.cell? ⟨B, o + i * 3 + 1, none⟩ = some (.int .i64 (pk L i).sp) ∧ w.cell? ⟨B, o + i * 3 + 2, none⟩ = some (.int .i64 (pk L i).kd) := by
  rcases h.2.2 with h0 | h
  · omega
  · exact h
/-- the cells of pickups -/
def pksOf (L : List Pk) : List Value := L.flatMap fun x => [.int .i64 x.no, .int .i64 x.sp, .int .i64 x.kd]
theorem pksOf_cons (x : Pk) (L : List Pk) : pksOf (x :: L) = .int .i64 x.no :: .int .i64 x.sp :: .int .i64 x.kd :: pksOf L := by simp [pksOf]
theorem pksOf_len (L : List Pk) : (pksOf L).length = L.length * 3 := by
  induction L with
  | nil => rfl
  | cons x L ih => rw [pksOf_cons]; simp only [List.length_cons, ih]; omega
theorem pksOf_app (L M : List Pk) : pksOf (L ++ M) = pksOf L ++ pksOf M := by simp [pksOf]
theorem pksOf_one (L : List Pk) : ∀ u ∈ pksOf L, u.oneCell' = true := by
  intro u hu
  simp only [pksOf, List.mem_flatMap] at hu
  obtain ⟨x, _, hx⟩ := hu
  simp at hx
  rcases hx with rfl | rfl | rfl <;> rfl
theorem pksOf_get : ∀ (L : List Pk) (j : Nat) (_ : j < L.length), (pksOf L)[j * 3]? = some (.int .i64 (pk L j).no) ∧ (pksOf L)[j * 3 + 1]? = some (.int .i64 (pk L j).sp) ∧ (pksOf L)[j * 3 + 2]? = some (.int .i64 (pk L j).kd)
  | [], j, h => by simp at h
  | x :: L, 0, _ => by rw [pksOf_cons]; exact ⟨rfl, rfl, rfl⟩
  | x :: L, j + 1, h => by
    have ih := pksOf_get L j (by simpa using h)
    have e : pk (x :: L) (j + 1) = pk L j := by simp [pk]
    rw [pksOf_cons, e, show (j + 1) * 3 = j * 3 + 1 + 1 + 1 by omega]
    simp only [List.getElem?_cons_succ]
    exact ih
theorem pksOf_drop : ∀ (L : List Pk) (k : Nat), (pksOf L).drop (k * 3) = pksOf (L.drop k)
  | L, 0 => by simp
  | [], k + 1 => by simp [pksOf]
  | x :: L, k + 1 => by
    rw [pksOf_cons, show (k + 1) * 3 = k * 3 + 1 + 1 + 1 by omega]
    simp only [List.drop_succ_cons]
    exact pksOf_drop L k
theorem pksOf_set : ∀ (L : List Pk) (j : Nat) (_ : j < L.length) (x : Pk), (((pksOf L).set (j * 3) (.int .i64 x.no)).set (j * 3 + 1) (.int .i64 x.sp)).set (j * 3 + 2) (.int .i64 x.kd) = pksOf (L.set j x)
  | [], j, h, x => by simp at h
  | y :: L, 0, h, x => by
    show _ = pksOf (x :: L)
    rw [pksOf_cons, pksOf_cons]
    rfl
  | y :: L, j + 1, h, x => by
    have ih := pksOf_set L j (by simpa using h) x
    rw [List.set_cons_succ, pksOf_cons, pksOf_cons, ← ih, show (j + 1) * 3 = j * 3 + 1 + 1 + 1 by omega]
    simp only [List.set_cons_succ]
/-- v owns a row of these pickups (from block B on) -/
def OwK (w : World) (B : Nat) (v : Value) (L : List Pk) : Prop := w.ownsRow B 155 3 v L.length (pksOf L)
theorem OwK.nil (w : World) (B : Nat) : OwK w B (.slice none 0 0) [] := World.ownsRow_nil w B _ 3
theorem OwK.keep {F : Nat → Prop} {w w' : World} {B : Nat} {v : Value} {L : List Pk} (h : OwK w B v L) (hf : Fr F w w') (hF : ∀ k, F k → v.ownBlock ≠ some k) : OwK w' B v L := by
  refine ⟨h.1, ?_⟩
  rcases h.2 with hn | ⟨g, cap, cur, rfl, hb, hg, rest⟩
  · exact .inl hn
  · exact .inr ⟨g, cap, cur, rfl, hb, hf.kept hg (fun h => hF g h rfl), rest⟩
theorem OwK.still {w w' : World} {B : Nat} {v : Value} {L : List Pk} (h : OwK w B v L) (hf : Still w w') : OwK w' B v L := h.keep hf (fun _ e => e.elim)
theorem OwK.slice {w : World} {B : Nat} {v : Value} {L : List Pk} (h : OwK w B v L) : ∃ ao cap, v = .slice ao L.length cap ∧ (ao = none ∨ ∃ g, ao = some ⟨g, 0, none⟩ ∧ B ≤ g ∧ g < w.heap.size) := by
  rcases h.2 with ⟨rfl, hn⟩ | ⟨g, cap, cur, rfl, hb, hg, rest⟩
  · exact ⟨none, 0, by rw [hn], .inl rfl⟩
  · exact ⟨_, cap, rfl, .inr ⟨g, rfl, hb, block_lt hg⟩⟩
theorem OwK.cap {w : World} {B : Nat} {ao : Option Addr} {n cap : Nat} {L : List Pk} (h : OwK w B (.slice ao n cap) L) : n ≤ cap := by
  rcases h.2 with ⟨hv, hn⟩ | ⟨g, cap', cur, hv, hb, hg, hn, rest⟩
  · cases hv; omega
  · cases hv; exact hn
theorem OwK.block {w : World} {B k : Nat} {v : Value} {L : List Pk} (h : OwK w B v L) (hk : v.ownBlock = some k) : B ≤ k ∧ k < w.heap.size := h.lt k hk
theorem OwK.cell {w : World} {B g n cap : Nat} {L : List Pk} (h : OwK w B (.slice (some ⟨g, 0, none⟩) n cap) L) (j : Nat) (hj : j < L.length) :
    w.cell? ⟨g, j * 3, none⟩ = some (.int .i64 (pk L j).no) ∧ w.cell? ⟨g, j * 3 + 1, none⟩ = some (.int .i64 (pk L j).sp) ∧ w.cell? ⟨g, j * 3 + 2, none⟩ = some (.int .i64 (pk L j).kd) ∧ ∀ o, w.frozen? ⟨g, o, none⟩ = false := by
  obtain ⟨h1, h2, h3⟩ := pksOf_get L j hj
  have k1 := World.ownsRow.cells h (g := g) rfl _ _ h1
  have k2 := World.ownsRow.cells h (g := g) rfl _ _ h2
  have k3 := World.ownsRow.cells h (g := g) rfl _ _ h3
  rw [add_plain, Nat.zero_add] at k1 k2 k3
  refine ⟨k1, k2, k3, fun o => ?_⟩
  rcases h.2 with ⟨hv, _⟩ | ⟨g', cap', cur, hv, hb, hg, rest⟩
  · cases hv
  · cases hv; exact frozen_of_row w g o _ _ hg
theorem OwK.set {w : World} {B g n cap : Nat} {L : List Pk} (h : OwK w B (.slice (some ⟨g, 0, none⟩) n cap) L) (j : Nat) (hj : j < L.length) (x : Pk) :
    OwK (((w.setCell ⟨g, j * 3, none⟩ (.int .i64 x.no)).setCell ⟨g, j * 3 + 1, none⟩ (.int .i64 x.sp)).setCell ⟨g, j * 3 + 2, none⟩ (.int .i64 x.kd)) B (.slice (some ⟨g, 0, none⟩) n cap) (L.set j x) := by
  rcases h.2 with ⟨hv, _⟩ | ⟨g', cap', cur, hv, hb, hg, hn, hm, hs, ht⟩
  · cases hv
  · cases hv
    have h1 := heap_setCell_same w g (j * 3) _ _ (.int .i64 x.no) hg
    have h2 := heap_setCell_same _ g (j * 3 + 1) _ _ (.int .i64 x.sp) h1
    have h3 := heap_setCell_same _ g (j * 3 + 2) _ _ (.int .i64 x.kd) h2
    refine ⟨by rw [pksOf_len, List.length_set], .inr ⟨g, cap, _, by rw [List.length_set], hb, h3, by rw [List.length_set]; exact hn, hm, by rw [Array.size_setIfInBounds, Array.size_setIfInBounds, Array.size_setIfInBounds]; exact hs, ?_⟩⟩
    rw [List.length_set, ← pksOf_set L j hj x, ← ht]
    simp only [Array.toList_setIfInBounds]
    rw [List.take_set, List.take_set, List.take_set]
/-- what is owned is read, as far as one likes -/
theorem OwK.rd {w : World} {B : Nat} {ao : Option Addr} {n cap : Nat} {L M : List Pk} (h : OwK w B (.slice ao n cap) (L ++ M)) (hm : L.length ≤ 281474976710656) : RdK w ao L.length L := by
  refine ⟨rfl, hm, ?_⟩
  by_cases h0 : L.length = 0
  · exact .inl h0
  right
  obtain ⟨ao', cap', e, hao⟩ := h.slice
  cases e
  rcases hao with rfl | ⟨g, rfl, _, _⟩
  · rcases h.2 with ⟨_, hn⟩ | ⟨g', cap', cur, hv, _⟩
    · rw [List.length_append] at hn; omega
    · cases hv
  · refine ⟨g, 0, rfl, fun i hi => ?_⟩
    have hc := h.cell i (by simp; omega)
    have e : pk (L ++ M) i = pk L i := by simp [pk, List.getD, List.getElem?_append_left hi]
    rw [e] at hc
    rw [Nat.zero_add]
    exact ⟨hc.1, hc.2.1, hc.2.2.1⟩
theorem info_kv : ∃ i, Tryd.prog.info? 155 = some i ∧ i.zero = some (kv zK) ∧ i.size = 3 ∧ i.bytes = 24 := ⟨_, rfl, rfl, rfl, rfl⟩
/-- 'append(s, x)' of pickups, s its owner's: as the walk takes it. -/
theorem wpList_appK (w : World) {ops : Array Oper} {rest : List Oper} {o : Oper} {a : Act} {Q : Exit → Act → World → Prop} (hgd : o.guard = none) (s x : Operand)
    (hop : o.op = .call { callee := .builtin .append, args := #[s, x], argTypes := #[25, 25] })
    (B g : Nat) (v : Value) (L : List Pk) (p : Pk) (hs : a.eval s = v) (hx : a.eval x = .slice (some ⟨g, 0, none⟩) 1 1) (ho : OwK w B v L) (hr : Kb w g p) (h47 : L.length ≤ 100000) (hB : B ≤ w.heap.size)
    (h : ∀ v' w', OwK w' B v' (L ++ [p]) → Fr (fun k => v.ownBlock = some k) w w' → wpList Tryd.prog ops Q rest (a.put o.dst v') w') : wpList Tryd.prog ops Q (o :: rest) a w := by
  obtain ⟨i, hi, hz, h1, h2⟩ := info_kv
  refine wpList_append_own (P := Tryd.prog) w hgd s x 25 hop B 155 i (kv zK) 3 24 Tryd.underlying25 hi hz h1 h2 rfl (by omega) v L.length (pksOf L) hs ho ⟨g, 0, none⟩ 1 1 (pksOf [p]) hx rfl ?_ (pksOf_one _) (by unfold maxLen; omega) (by omega) hB ?_
  · intro j u hu
    rw [add_plain, Nat.zero_add]
    have hj : j < 3 := by
      have := (List.getElem?_eq_some_iff.1 hu).1
      simpa [pksOf] using this
    rcases (show j = 0 ∨ j = 1 ∨ j = 2 by omega) with rfl | rfl | rfl
    · simp [pksOf] at hu; subst hu; exact hr.cells.1
    · simp [pksOf] at hu; subst hu; exact hr.cells.2.1
    · simp [pksOf] at hu; subst hu; exact hr.cells.2.2.1
  · intro v' w' hown hgr _
    refine h v' w' ?_ ⟨hgr.os, hgr.tape, hgr.output, hgr.size, fun k hk hn => hgr.block k hk (fun e => hn e.symm)⟩
    unfold OwK
    rw [pksOf_app, List.length_append]
    exact hown
/-- what is appended to new memory is new memory -/
theorem still_appK {w0 w w' : World} {B : Nat} {v : Value} {L : List Pk} (hs : Still w0 w) (ho : OwK w B v L) (hf : Fr (fun k => v.ownBlock = some k) w w') (hB : w0.heap.size ≤ B) : Still w0 w' :=
  Fr.trans hs hf (fun k hk e => by have := (ho.block e).1; omega)
/-- 'copy' of elements of any size -/
theorem run_copy_any {P : Program} (w : World) (dT sT ty elem : TypeId) (i : TypeInfo) (g dLen dCap : Nat) (a : Addr) (sLen sCap : Nat) (cur : Array Value) (t : TypeId) (cs : List Value)
    (hu : P.underlying dT = some (.slice elem)) (hi : P.info? elem = some i) (hg : w.heap[g]? = some (.cells cur t (0, 0))) (hn : cs.length = Nat.min sLen dLen * i.size)
    (hsrc : ∀ j v, cs[j]? = some v → w.cell? (a.add j) = some v) (hfit : cs.length ≤ cur.size) (h1 : ∀ v ∈ cs, v.oneCell' = true) :
    (Builtin.copy_ #[dT, sT] ty #[.slice (some ⟨g, 0, none⟩) dLen dCap, .slice (some a) sLen sCap]).run P w =
      .ok (goInt (Nat.min sLen dLen)) (w.setRow g (cs ++ cur.toList.drop cs.length).toArray) := by
  have hl := run_loadCells_list (P := P) w a cs hsrc
  have hst := run_storeCells_at P g 0 t cs 0 cur w hg (by simpa using hfit) h1
  rw [hn] at hl
  simp only [Nat.zero_add, List.take_zero, List.nil_append] at hst
  simp [Builtin.copy_, run_underlying hu, Builtin.lenOf, Builtin.firstCells, sizeOf, typeInfo, hi, hl, hst]
/-- 'copy(all, l)', all its owner's. -/
theorem copy_owK {W : World} {B g N : Nat} {so : Option Addr} {n c : Nat} {M L : List Pk} (ho : OwK W B (.slice (some ⟨g, 0, none⟩) N N) M) (hr : RdK W so n L) (hn : n ≤ N) (hc : so = none → c = 0) :
    ∃ W', (∀ ty, (Builtin.copy_ #[25, 25] ty #[.slice (some ⟨g, 0, none⟩) N N, .slice so n c]).run Tryd.prog W = .ok (goInt n) W') ∧ OwK W' B (.slice (some ⟨g, 0, none⟩) N N) (L ++ M.drop n) ∧ Fr (fun k => k = g) W W' := by
  obtain ⟨i, hi, hz, h1, h2⟩ := info_kv
  have hlL := hr.1
  have hlM : M.length = N := by
    obtain ⟨ao', cap', e, _⟩ := ho.slice
    cases e; rfl
  rcases ho.2 with ⟨hv, _⟩ | ⟨g', cap', cur, hv, hb, hg, hnc, hmx, hs, ht⟩
  · cases hv
  cases hv
  cases so with
  | none =>
    obtain rfl := hc rfl
    by_cases h0 : n = 0
    · subst h0
      obtain rfl : L = [] := List.eq_nil_of_length_eq_zero hlL
      exact ⟨W, fun ty => run_copy_nil (P := Tryd.prog) W 25 25 ty 155 ⟨g, 0, none⟩ _ _ Tryd.underlying25 (by rw [hi]; rfl), by simpa using ho, Fr.refl _ _⟩
    · obtain ⟨_, _, e, _⟩ := hr.at (by omega)
      cases e
  | some a =>
    have hcl : (pksOf L).length = Nat.min n M.length * i.size := by rw [pksOf_len, hlL, h1, show Nat.min n M.length = n from Nat.min_eq_left (by omega)]
    have hsrc : ∀ j v, (pksOf L)[j]? = some v → W.cell? (a.add j) = some v := by
      intro j v hj
      have hjl := (List.getElem?_eq_some_iff.1 hj).1
      rw [pksOf_len] at hjl
      obtain ⟨B', o, e, hce⟩ := hr.at (by omega)
      cases e
      have hq : j / 3 < n := by omega
      have hg := pksOf_get L (j / 3) (by omega)
      have hc3 := hce (j / 3) hq
      rw [add_plain]
      rcases (show j = j / 3 * 3 ∨ j = j / 3 * 3 + 1 ∨ j = j / 3 * 3 + 2 by omega) with e | e | e
      · rw [e] at hj ⊢
        rw [hg.1] at hj; cases hj; exact hc3.1
      · rw [e] at hj ⊢
        rw [hg.2.1] at hj; cases hj; rw [← Nat.add_assoc]; exact hc3.2.1
      · rw [e] at hj ⊢
        rw [hg.2.2] at hj; cases hj; rw [← Nat.add_assoc]; exact hc3.2.2
    have hfit : (pksOf L).length ≤ cur.size := by rw [pksOf_len, hs]; omega
    refine ⟨W.setRow g (pksOf L ++ cur.toList.drop (pksOf L).length).toArray, fun ty => ?_, ?_, (Fr.refl _ W).setRow g _ (.inl rfl)⟩
    · have := run_copy_any (P := Tryd.prog) W 25 25 ty 155 i g M.length M.length a n c cur 155 (pksOf L) Tryd.underlying25 hi hg hcl hsrc hfit (pksOf_one L)
      rw [show Nat.min n M.length = n from Nat.min_eq_left (by omega)] at this
      exact this
    · have hgn := setRow_heap W g cur (pksOf L ++ cur.toList.drop (pksOf L).length).toArray 155 _ hg
      have hct : cur.toList = pksOf M := by
        rw [← ht]; exact (List.take_of_length_le (by rw [Array.length_toList, hs]; exact Nat.le_refl _)).symm
      have e2 : pksOf L ++ cur.toList.drop (pksOf L).length = pksOf (L ++ M.drop n) := by
        rw [hct, pksOf_len, hlL, pksOf_drop, pksOf_app]
      rw [e2] at hgn ⊢
      have hlen : (L ++ M.drop n).length = M.length := by simp; omega
      refine ⟨pksOf_len _, .inr ⟨g, M.length, _, by rw [hlen], hb, hgn, by rw [hlen]; exact Nat.le_refl _, hmx, by rw [List.size_toArray, pksOf_len, hlen], ?_⟩⟩
      rw [List.take_of_length_le (by simp [pksOf_len])]
/-- 'l[:k]' of pickups -/
theorem run_uptoK (w : World) (ao : Option Addr) (n cap : Nat) (x : Int) (h0 : 0 ≤ x) (h1 : x ≤ cap) :
    (Instr.slice 25 (.slice ao n cap) none (some (.int .i64 x)) none).run Tryd.prog w = .ok (.slice ao x.toNat cap) w := by
  obtain ⟨i, hi, _, hs, _⟩ := info_kv
  have ht : Tryd.prog.underlying 25 = some (.slice 155) := Tryd.underlying25
  have ht' : Tryd.prog.underlying 25 = some (.slice (Tryd.prog.elem 25)) := by simp [Program.elem, ht]
  have he : Tryd.prog.elem 25 = 155 := by simp [Program.elem, ht]
  rw [run_slice_h w 25 ao n cap ht' .i64 x h0 h1, he]
  have := cutAt_zero ao cap
  simp only [cutAt] at this
  simp [sizeOf, typeInfo, hi, hs, Result.andThen, sliced]
  simpa using this
end Go.Proofs.YtdljmpjfiggdiaaDoor
