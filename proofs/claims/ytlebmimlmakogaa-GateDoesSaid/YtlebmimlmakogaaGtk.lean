/- Stage 21, a gate of the program beside the document's; a call on the two. -/
import Derived.Test.YtlebmimlmakogaaGth
import Derived.Test.YtlebmimlmakogaaHn
namespace Go.Proofs.Ytlebmimlmakogaa
open Go.RowKit
set_option maxRecDepth 100000

/-- which of n a raw number speaks of -/
def pk (c n : Int) : Int := if c < 0 then (-(c + 1)).tmod n else c.tmod n
theorem pk_in (c n : Int) (hn : 0 < n) : 0 ≤ pk c n ∧ pk c n < n := by
  unfold pk
  split
  · rename_i h
    rw [Int.tmod_eq_emod_of_nonneg (by omega)]
    exact ⟨Int.emod_nonneg _ (by omega), Int.emod_lt_of_pos _ hn⟩
  · rw [Int.tmod_eq_emod_of_nonneg (by omega)]
    exact ⟨Int.emod_nonneg _ (by omega), Int.emod_lt_of_pos _ hn⟩
theorem pick_any (c n : Int) (hc : -9223372036854775808 ≤ c ∧ c ≤ 9223372036854775807) (hn : 0 < n) (hn2 : n ≤ 9223372036854775807) (w : World) : Calls Try.prog 7 #[.int .i64 c, .int .i64 n] w fun e w' => e = .returned (.int .i64 (pk c n)) ∧ w' = w := by
  have hin := pk_in c n hn
  have hn0 : (n == 0) = false := beq_eq_false_iff_ne.2 (by omega)
  by_cases h : c < 0
  · have HP : Hid (pk c n = (-(c + 1)).tmod n) := hid (by unfold pk; rw [if_pos h])
    have hw1 : IntKind.i64.wrap (c + 1) = c + 1 := by rw [IntKind.wrap_i64]; omega
    have hw2 : IntKind.i64.wrap (-(c + 1)) = -(c + 1) := by rw [IntKind.wrap_i64]; omega
    have hw3 : IntKind.i64.wrap ((-(c + 1)).tmod n) = (-(c + 1)).tmod n := by rw [IntKind.wrap_i64, ← HP.out]; omega
    go_enter Try.func7, Try.ntmps7
    go_wp2_with fail
    go_ret
    exact ⟨by show Ending.returned (.int .i64 (-(c + 1).tmod n)) = _; rw [HP.out, Int.neg_tmod], rfl⟩
  · have HP : Hid (pk c n = c.tmod n) := hid (by unfold pk; rw [if_neg h])
    have hw3 : IntKind.i64.wrap (c.tmod n) = c.tmod n := by rw [IntKind.wrap_i64, ← HP.out]; omega
    go_enter Try.func7, Try.ntmps7
    go_wp2_with fail
    go_ret
    exact ⟨by show Ending.returned (.int .i64 (c % n)) = _; rw [HP.out, Int.tmod_eq_emod_of_nonneg (by omega)], rfl⟩
theorem app_blockZ {P : Program} {α : Type} {K : Kd α} {e : TypeId} {w : World} {B : Nat} {v : Value} {L : List α} (ho : OwG K e w B v L) {t ty : TypeId} (hu : P.underlying t = some (.slice e)) (bytes : Nat) (z : Value) (hinfo : ∃ i, P.info? e = some i ∧ i.zero = some z ∧ i.size = K.k ∧ i.bytes = bytes) (p : α) {g : Nat} (hr : w.heap[g]? = some (.cells (K.f p).toArray e (0, 0))) (h47 : (L.length + 1) * bytes ≤ 140737488355328) (h63 : L.length ≤ 281474976710656) {v' : Value} {w' : World}
    (hrun : (Builtin.append_ #[t, t] ty #[v, .slice (some ⟨g, 0, none⟩) 1 1]).run P w = .ok v' w') : ∀ k, v'.ownBlock = some k → v.ownBlock = some k ∨ w.heap.size ≤ k := by
  obtain ⟨i, hi, hz, h1, h2⟩ := hinfo
  subst h2
  have hl : (K.f p).length = 1 * i.size := by rw [K.len, h1, Nat.one_mul]
  have hnews : ∀ j u, (K.f p)[j]? = some u → w.cell? ((⟨g, 0, none⟩ : Addr).add j) = some u := by
    intro j u hj
    rw [add_plain, Nat.zero_add, cell_of_row _ _ _ _ _ _ hr]
    simpa using hj
  rcases ho.2 with ⟨rfl, hn⟩ | ⟨g', cap, cur, rfl, hbg, hg, hnc, hcm, hcs, htake⟩
  · have := run_append_nil (P := P) w t ty e i _ hu hi hz ⟨g, 0, none⟩ 1 1 (K.f p) hl hnews (by omega) (by omega) (by rw [hn] at h47; simp only [Nat.zero_add] at h47; omega)
    rw [this] at hrun
    injection hrun with hv _
    intro k hk
    rw [← hv] at hk
    simp [Value.ownBlock] at hk
    right; omega
  · by_cases hroom : L.length + 1 ≤ cap
    · have := run_append_room (P := P) w t ty e i hu hi g' L.length cap cur hg ⟨g, 0, none⟩ 1 1 (K.f p) hl hnews (K.one p) hroom (by rw [hl, hcs, ← h1, ← Nat.add_mul]; exact Nat.mul_le_mul_right _ hroom)
      rw [this] at hrun
      injection hrun with hv _
      intro k hk
      rw [← hv] at hk
      left
      simpa [Value.ownBlock] using hk
    · have holds := World.ownsRow.cells ho (g := g') rfl
      have := run_append_grow (P := P) w t ty e i _ hu hi hz ⟨g', 0, none⟩ L.length cap (K.row L) (by rw [K.row_len, h1]) holds ⟨g, 0, none⟩ 1 1 (K.f p) hl hnews (by omega) (by omega) (growslice_fits (by omega) h47)
      rw [this] at hrun
      injection hrun with hv _
      intro k hk
      rw [← hv] at hk
      simp [Value.ownBlock] at hk
      right; omega
/-- 'append(s, x)', s its owner's: as the walk takes it; the row is where it was, or new -/
theorem wpList_appZ {P : Program} {α : Type} {e : TypeId} (K : Kd α) (w : World) {ops : Array Oper} {rest : List Oper} {o : Oper} {a : Act} {Q : Exit → Act → World → Prop} (hgd : o.guard = none) (s x : Operand) (t : TypeId)
    (hop : o.op = .call { callee := .builtin .append, args := #[s, x], argTypes := #[t, t] })
    (hu : P.underlying t = some (.slice e)) (bytes : Nat) (z : Value) (hzc : z.cells.size = K.k) (hinfo : ∃ i, P.info? e = some i ∧ i.zero = some z ∧ i.size = K.k ∧ i.bytes = bytes)
    (B g : Nat) (v : Value) (L : List α) (p : α) (hs : a.eval s = v) (hx : a.eval x = .slice (some ⟨g, 0, none⟩) 1 1) (ho : OwG K e w B v L) (hr : w.heap[g]? = some (.cells (K.f p).toArray e (0, 0))) (h47 : (L.length + 1) * bytes ≤ 140737488355328) (h63 : L.length ≤ 281474976710656) (hB : B ≤ w.heap.size)
    (h : ∀ v' w', OwG K e w' B v' (L ++ [p]) → Fr (fun k => v.ownBlock = some k) w w' → (∀ k, v'.ownBlock = some k → v.ownBlock = some k ∨ w.heap.size ≤ k) → wpList P ops Q rest (a.put o.dst v') w') : wpList P ops Q (o :: rest) a w := by
  obtain ⟨i, hi, hz, h1, h2⟩ := hinfo
  have hnews : ∀ j u, (K.f p)[j]? = some u → w.cell? ((⟨g, 0, none⟩ : Addr).add j) = some u := by
    intro j u hj
    rw [add_plain, Nat.zero_add, cell_of_row _ _ _ _ _ _ hr]
    simpa using hj
  obtain ⟨v', w', hrun, h2', h3, _⟩ := run_append_own (P := P) w B t o.type e i z K.k bytes hu hi hz h1 h2 hzc K.pos v L.length (K.row L) ho ⟨g, 0, none⟩ 1 1 (K.f p) (by rw [K.len, Nat.one_mul]) hnews (K.one p) (by unfold maxLen; omega) h47 hB
  refine wpList_plain hgd fun Kc hK => ?_
  unfold Oper.wp execOp
  simp only [hop, resolve, invoke, builtin, Sem.run_bind, Sem.run_pure, Result.andThen_ok, List.map_toArray, List.map_cons, List.map_nil, hs, hx, hrun]
  refine hK _ _ (h v' w' ?_ ⟨h3.os, h3.tape, h3.output, h3.size, fun k hk hn => h3.block k hk (fun e => hn e.symm)⟩ (app_blockZ ho hu bytes z ⟨i, hi, hz, h1, h2⟩ p hr h47 h63 hrun))
  unfold OwG
  rw [K.row_app, List.length_append, show K.row [p] = K.f p by simp [Kd.row]]
  exact h2'

abbrev pgT : TypeId := 51
structure PdG where
  r : Nat
  p : Nat
  g : Nat
  q : Nat
  h : Nat
  n : Nat
  s : Nat
  L : List Int
abbrev pgv (P : PdG) : Array Value := #[.pointer (some ⟨P.p, 0, none⟩), .pointer (some ⟨P.q, 0, none⟩)]
structure Pg (B : Nat) (w : World) (P : PdG) : Prop where
  x : Gt gT w B P.p P.s P.g P.n P.L
  y : Gt dT w B P.q P.s P.h P.n P.L
  b : w.heap[P.r]? = some (.cells (pgv P) pgT (0, 0))
  rl : B ≤ P.r
  gh : P.g ≠ P.h
theorem tyne {w : World} {a b : Nat} {x y : Array Value} {s t : TypeId} (ha : w.heap[a]? = some (.cells x s (0, 0))) (hb : w.heap[b]? = some (.cells y t (0, 0))) (h : s ≠ t) : a ≠ b := fun e => by
  subst e
  rw [ha] at hb
  injection hb with hb
  injection hb with _ h2 _
  exact h h2
section
variable {B : Nat} {w w' : World} {P : PdG}
theorem Pg.cells (h : Pg B w P) : w.cell? ⟨P.r, 0, none⟩ = some (.pointer (some ⟨P.p, 0, none⟩)) ∧ w.cell? ⟨P.r, 1, none⟩ = some (.pointer (some ⟨P.q, 0, none⟩)) := by
  constructor <;> (rw [cell_of_row _ _ _ _ _ _ h.b]; rfl)
theorem Pg.gr (h : Pg B w P) : P.p ≠ P.g ∧ P.q ≠ P.g ∧ P.r ≠ P.g := by
  obtain ⟨cur, hc⟩ := h.x.row
  exact ⟨tyne h.x.bk hc (by decide), tyne h.y.bk hc (by decide), tyne h.b hc (by decide)⟩
theorem Pg.hr (h : Pg B w P) : P.p ≠ P.h ∧ P.q ≠ P.h ∧ P.r ≠ P.h := by
  obtain ⟨cur, hc⟩ := h.y.row
  exact ⟨tyne h.x.bk hc (by decide), tyne h.y.bk hc (by decide), tyne h.b hc (by decide)⟩
theorem Pg.keep {F : Nat → Prop} (h : Pg B w P) (hf : Fr F w w') (hF : ∀ k, F k → k ≠ P.p ∧ k ≠ P.g ∧ k ≠ P.q ∧ k ≠ P.h ∧ k ≠ P.r) : Pg B w' P :=
  ⟨h.x.keep hf (fun e => (hF _ e).1 rfl) (fun e => (hF _ e).2.1 rfl), h.y.keep hf (fun e => (hF _ e).2.2.1 rfl) (fun e => (hF _ e).2.2.2.1 rfl), hf.kept h.b (fun e => (hF _ e).2.2.2.2 rfl), h.rl, h.gh⟩
theorem Pg.still (h : Pg B w P) (hs : Still w w') : Pg B w' P := h.keep hs (fun _ e => e.elim)
/-- a call on the one, then on the other -/
theorem Pg.both {w1 w2 : World} {M : List Int} (h : Pg B w P) (hx : Gt gT w1 B P.p P.s P.g P.n M) (h1 : Fr (fun k => k = P.g) w w1) (hy : Gt dT w2 B P.q P.s P.h P.n M) (h2 : Fr (fun k => k = P.h) w1 w2) : Pg B w2 { P with L := M } :=
  ⟨hx.keep h2 (fun e => h.hr.1 e) (fun e => h.gh e), hy, h2.kept (h1.kept h.b (fun e => h.gr.2.2 e)) (fun e => h.hr.2.2 e), h.rl, h.gh⟩
end
theorem mark_both (n s : Nat) (L : List Int) (a f : Int) : ∃ (r : Int) (M : List Int),
    (∀ (u : World) (B p g : Nat), Gt gT u B p s g n L → Calls Try.prog 15 #[.pointer (some ⟨p, 0, none⟩), .int .i64 a, .int .i64 f] u fun e w' => e = .returned (.int .i64 r) ∧ Gt gT w' B p s g n M ∧ Fr (fun k => k = g) u w') ∧
    (∀ (u : World) (B p g : Nat), Gt dT u B p s g n L → Calls Try.prog 16 #[.pointer (some ⟨p, 0, none⟩), .int .i64 a, .int .i64 f] u fun e w' => e = .returned (.int .i64 r) ∧ Gt dT w' B p s g n M ∧ Fr (fun k => k = g) u w') := by
  by_cases hm : MayG n s a f
  · obtain ⟨m0, m1, m2, m3, m4⟩ := hm
    obtain ⟨j, rfl⟩ : ∃ j : Nat, a = (j : Int) := ⟨a.toNat, by omega⟩
    exact ⟨0, mkL L j f, fun u B p g h => gmark_yes h j f (by omega) (by omega) ⟨m3, m4⟩, fun u B p g h => dmark_yes h j f (by omega) (by omega) ⟨m3, m4⟩⟩
  · refine ⟨210, L, fun u B p g h => (gmark_no h a f hm).mono ?_, fun u B p g h => (dmark_no h a f hm).mono ?_⟩ <;>
    · rintro e w' ⟨he, hw⟩
      rw [hw]
      exact ⟨he, h, Fr.refl _ _⟩
theorem plan_both (n s : Nat) (L : List Int) (a h l : Int) : ∃ (x : Int) (v : Bool) (r : Int),
    (∀ (u : World) (B p g : Nat), Gt gT u B p s g n L → Calls Try.prog 12 #[.pointer (some ⟨p, 0, none⟩), .int .i64 a, .int .i64 h, .int .i64 l] u fun e w' => e = .returned (.tuple #[.agg #[.int .i64 x, .bool v], .int .i64 r]) ∧ Still u w') ∧
    (∀ (u : World) (B p g : Nat), Gt dT u B p s g n L → Calls Try.prog 18 #[.pointer (some ⟨p, 0, none⟩), .int .i64 a, .int .i64 h, .int .i64 l] u fun e w' => e = .returned (.tuple #[.agg #[.int .i64 x, .bool v], .int .i64 r]) ∧ Still u w') := by
  by_cases hm : MayL a h l
  · exact ⟨_, _, _, fun u B p g hg => gplan_yes hg a h l hm, fun u B p g hg => dplan_yes hg a h l hm⟩
  · exact ⟨_, _, _, fun u B p g _ => gplan_no a h l hm p u, fun u B p g _ => dplan_no a h l hm p u⟩
theorem equal_pn (x : Int) (v : Bool) (w : World) : (Op.equalIn 10000 plTy (.agg #[.int .i64 x, .bool v]) (.agg #[.int .i64 x, .bool v])).run Try.prog w = .ok true w := by
  rw [run_equalIn_struct w 9999 _ _ _ (by kernel_rfl) (by kernel_rfl)]
  have e : (Try.prog.fieldsOf plTy) = #[⟨ "Hind", 2, 0, false, "", "", 0⟩, ⟨ "Stall", 4, 1, false, "", "", 8⟩] := by kernel_rfl
  rw [e]
  go_simp
theorem eql_pn (x : Int) (v : Bool) (w : World) : (binOp .eql plTy (.agg #[.int .i64 x, .bool v]) (.agg #[.int .i64 x, .bool v])).run Try.prog w = .ok (.bool true) w := by
  rw [run_eql_struct, equal_pn]; rfl
theorem guard_pn (op : BinOp) (a b : Operand) (xs ys : Array Value) (w : World) : (eqGuard op plTy a b (.agg xs) (.agg ys)).run Try.prog w = .ok () w := run_eqGuard_agg w op _ a b xs ys (by kernel_rfl)
theorem st_pn {o : Oper} {ρ : Operand → Value} {x y : Operand} {u : World} {g : Nat} {m : Int} {v : Bool} (ho : o.op = .store plTy x y) (hx : ρ x = .pointer (some ⟨g, 0, none⟩)) (hy : ρ y = .agg #[.int .i64 m, .bool v]) (hh : u.heap[g]? = some (.cells #[.int .i64 0, .bool false] plTy (0, 0))) :
    ∃ u', (execOp ρ o).run Try.prog u = .ok .skip u' ∧ u'.heap[g]? = some (.cells #[.int .i64 m, .bool v] plTy (0, 0)) ∧ Fr (fun i => i = g) u u' := by
  have hb : Pn u g 0 false := hh
  obtain ⟨d0, d1, df⟩ := hb.cells
  have hput := hb.set m v
  refine ⟨(u.setCell ⟨g, 0, none⟩ (.int .i64 m)).setCell ⟨g, 1, none⟩ (.bool v), ?_, hput, ((Fr.refl (fun i => i = g) u).setCell ⟨g, 0, none⟩ _ (.inl rfl)).setCell ⟨g, 1, none⟩ _ (.inl rfl)⟩
  clear hput hb hh
  unfold execOp
  rw [ho]
  simp only [hx, hy]
  go_simp
theorem nw_pn {o : Oper} {ρ : Operand → Value} (ho : o.op = .alloc plTy) (u : World) : (execOp ρ o).run Try.prog u = .ok (.value (.pointer (some ⟨u.heap.size, 0, none⟩))) (u.alloc (.cells #[.int .i64 0, .bool false] plTy (0, 0))) := by
  unfold execOp
  rw [ho]
  go_simp
  try rfl
end Go.Proofs.Ytlebmimlmakogaa
