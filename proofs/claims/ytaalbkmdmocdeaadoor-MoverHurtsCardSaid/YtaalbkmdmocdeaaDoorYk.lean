/- What a verb is, by the program: kindOf, Name, Operands; an order's numbers; Check. -/
import Derived.Test.YtaalbkmdmocdeaaDoorYm
import Derived.Shelf.Abstract
namespace Go.Proofs.YtaalbkmdmocdeaaDoor
open Go.RowKit Go.Shelf
open Vp
set_option maxRecDepth 100000

theorem Kb.lt {w : World} {g : Nat} {s : ByteArray} {x : Value} (h : Kb w g s x) : g < w.heap.size := block_lt h
theorem look_acc {w : World} {b : Nat} (h : Acb w b) (v : Int) (k : Nat) (z : Value) (hf : Instr.findNow (.int .i64) (.int .i64 v) acE.toList 0 = some (some (k, z))) (ok : Bool) :
    (Instr.lookup 97 (.map (some b)) (.int .i64 v) ok).run Tryd.prog w = .ok (if ok then .tuple #[z, .bool true] else z) w := by
  have h' : w.heap[b]? = some (.map acE 7) := h
  cases ok <;> simp [Instr.lookup, run_underlying Tryd.underlying97, MapKept.run_getObj_map h', chk_key, find_key v _ _ hf, Result.andThen]
theorem look_no {w : World} {b : Nat} (h : Acb w b) (v : Int) (hv : isV v = false) :
    ∃ z, (Instr.lookup 97 (.map (some b)) (.int .i64 v) true).run Tryd.prog w = .ok (.tuple #[z, .bool false]) w := by
  have h' : w.heap[b]? = some (.map acE 7) := h
  have hf : Instr.findNow (.int .i64) (.int .i64 v) acE.toList 0 = some none := by
    have := isV_no.1 hv
    have e : ∀ n : Int, 1 ≤ n → n ≤ 7 → (v == n) = false := fun n h1 h2 => by simp; omega
    simp [acE, Instr.findNow, Instr.sameNow, e 1, e 2, e 3, e 4, e 5, e 6, e 7]
  have hz : ∃ z, (zeroValue 95).run Tryd.prog w = .ok z w := ⟨.nilFunc, by go_simp⟩
  obtain ⟨z, hz⟩ := hz
  refine ⟨z, ?_⟩
  simp [Instr.lookup, run_underlying Tryd.underlying97, MapKept.run_getObj_map h', chk_key, find_key v _ _ hf, Result.andThen, hz]
theorem Kb.rest {fn : Func} {p q : Tmp} {w : World} {g : Nat} {s : ByteArray} {x : Value} (hb : Kb w g s x) (h : fn.results = #[.cell p 82, .tmp q]) (tmps : Array Value) (t : Value) (hp : tmps.getD p undef = .pointer (some ⟨g, 0, none⟩)) (hq : tmps.getD q undef = t) :
    (results fn tmps).run Tryd.prog w = .ok (.tuple #[.agg #[.string s, x], t]) w := by
  rw [results_cell_tmp h, hp, hq]
  simp [asAddr, Result.andThen, load_kind w g s x hb.cells.1 hb.cells.2.1]
abbrev setK (w : World) (g : Nat) (s : ByteArray) (x : Value) : World := (w.setCell ⟨g, 0, none⟩ (.string s)).setCell ⟨g, 1, none⟩ x
theorem Kb.set {w : World} {g : Nat} {s : ByteArray} {x : Value} (h : Kb w g s x) (s' : ByteArray) (x' : Value) : Kb (setK w g s' x') g s' x' := by
  unfold Kb
  have h1 := heap_setCell_same w g 0 _ _ (.string s') h
  have h2 := heap_setCell_same _ g 1 _ _ x' h1
  rw [h2]; rfl
theorem setK_fr {F : Nat → Prop} {y w : World} (h : Fr F y w) (g : Nat) (s : ByteArray) (x : Value) (hb : F g ∨ y.heap.size ≤ g) : Fr F y (setK w g s x) := (h.setCell _ _ hb).setCell _ _ hb
theorem kind_no (v : Int) (hv : isV v = false) (w : World) : Calls Tryd.prog 56 #[.int .i64 v] w fun e w' => e = .returned (.tuple #[.agg #[.string ByteArray.empty, .slice none 0 0], .bool false]) ∧ Still w w' := by
  have q := newK_kb w ByteArray.empty (.slice none 0 0)
  have HS0 := hid (Still.alloc w (.cells #[.string ByteArray.empty, .slice none 0 0] 82))
  go_enter Tryd.func56, Tryd.ntmps56
  go_wp2_with fail
  refine (acc_any _).mono ?_
  rintro e w1 ⟨b, rfl, hb, ha, h1⟩
  obtain ⟨z, hl⟩ := look_no ha v hv
  have q1 := q.still h1
  have HS1 := hid (HS0.out.trans h1)
  obtain ⟨c0, c1, cf⟩ := q1.cells
  clear h1 hb HS0 q hv
  go_wp2_with fail
  exact bodyPost_ret ((q1.set _ _).rest rfl _ _ rfl rfl) rfl ⟨rfl, setK_fr HS1.out _ _ _ (.inr (Nat.le_refl _))⟩
/-- the method of a verb: how it is found, and what it says -/
theorem meth {v : Int} (hv : isV v = true) : ∃ f, (∀ w b, Acb w b → ∀ ok, (Instr.lookup 97 (.map (some b)) (.int .i64 v) ok).run Tryd.prog w = .ok (if ok then .tuple #[mth f, .bool true] else mth f) w) ∧
    (∀ args w, (callFunc f args).run Tryd.prog w = .ok (.enter f args) w) ∧
    (∀ w, Calls Tryd.prog f #[.agg #[]] w fun e w' => ∃ x, e = .returned (.agg #[.string (nmV v), x]) ∧ OwO w' w.heap.size x (opV v) ∧ Still w w') := by
  rcases verbs hv with rfl | rfl | rfl | rfl | rfl | rfl | rfl
  · exact ⟨97, fun w b h ok => look_acc h 1 0 _ rfl ok, enters_of Tryd.func97 (by kernel_rfl) rfl, steer_any⟩
  · exact ⟨98, fun w b h ok => look_acc h 2 1 _ rfl ok, enters_of Tryd.func98 (by kernel_rfl) rfl, halt_any⟩
  · exact ⟨99, fun w b h ok => look_acc h 3 2 _ rfl ok, enters_of Tryd.func99 (by kernel_rfl) rfl, aim_any⟩
  · exact ⟨100, fun w b h ok => look_acc h 4 3 _ rfl ok, enters_of Tryd.func100 (by kernel_rfl) rfl, fire_any⟩
  · exact ⟨101, fun w b h ok => look_acc h 5 4 _ rfl ok, enters_of Tryd.func101 (by kernel_rfl) rfl, shield_any⟩
  · exact ⟨102, fun w b h ok => look_acc h 6 5 _ rfl ok, enters_of Tryd.func102 (by kernel_rfl) rfl, dash_any⟩
  · exact ⟨103, fun w b h ok => look_acc h 7 6 _ rfl ok, enters_of Tryd.func103 (by kernel_rfl) rfl, say_any⟩
theorem kind_is (v : Int) (hv : isV v = true) (w : World) : Calls Tryd.prog 56 #[.int .i64 v] w fun e w' => ∃ x, e = .returned (.tuple #[.agg #[.string (nmV v), x], .bool true]) ∧ OwO w' w.heap.size x (opV v) ∧ Still w w' := by
  have q := newK_kb w ByteArray.empty (.slice none 0 0)
  have HS0 := hid (Still.alloc w (.cells #[.string ByteArray.empty, .slice none 0 0] 82))
  obtain ⟨f, hl, ef, hm⟩ := meth hv
  have HL := hid hl
  have HM := hid hm
  clear hl hm hv
  go_enter Tryd.func56, Tryd.ntmps56
  go_wp2_with fail
  refine (acc_any _).mono ?_
  rintro e w1 ⟨b, rfl, hb, ha, h1⟩
  have hl := HL.out _ _ ha true
  have q1 := q.still h1
  have HS1 := hid (HS0.out.trans h1)
  clear h1 hb HS0 q
  go_wp2_with fail
  refine (HM.out _).mono ?_
  rintro e w2 ⟨x, rfl, ho, h2⟩
  obtain ⟨ao, cap, rfl, hao⟩ := ho.slice
  have q2 := q1.still h2
  have HS2 := hid (HS1.out.trans h2)
  have HO := hid (And.intro ho (And.intro HS1.out.size q1.lt))
  obtain ⟨c0, c1, cf⟩ := q2.cells
  clear h2 HS1 q1 ho hao
  go_wp2_with fail
  refine bodyPost_ret ((q2.set _ _).rest rfl _ _ rfl rfl) rfl ⟨_, rfl, ?_, setK_fr HS2.out _ _ _ (.inr (Nat.le_refl _))⟩
  obtain ⟨h1, h2, h3⟩ := HO.out
  refine (h1.keep (setK_fr (F := fun k => k = w.heap.size) (Fr.refl _ _) _ _ _ (.inl rfl)) ?_).less h2
  rintro k rfl e
  have := (h1.block e).1
  omega
theorem kind_any (v : Int) (w : World) : Calls Tryd.prog 56 #[.int .i64 v] w fun e w' => ∃ ao n cap, e = .returned (.tuple #[.agg #[.string (nmV v), .slice ao n cap], .bool (isV v)]) ∧ OwO w' w.heap.size (.slice ao n cap) (opV v) ∧ Still w w' := by
  cases hv : isV v with
  | true =>
    refine (kind_is v hv w).mono ?_
    rintro e w' ⟨x, rfl, ho, hs⟩
    obtain ⟨ao, cap, rfl, hao⟩ := ho.slice
    exact ⟨_, _, _, rfl, ho, hs⟩
  | false =>
    refine (kind_no v hv w).mono ?_
    rintro e w' ⟨rfl, hs⟩
    have e1 : nmV v = ByteArray.empty := by unfold nmV; rw [hv]; rfl
    have e2 : opV v = [] := by unfold opV; rw [hv]; rfl
    exact ⟨none, 0, 0, by rw [e1], by rw [e2]; exact OwO.nil _ _, hs⟩
end Go.Proofs.YtaalbkmdmocdeaaDoor
