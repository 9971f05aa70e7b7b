/- A slice of points; midpoints; starts and spots: the program's, the document's. -/
import Derived.Test.YtnoaomocdmkigabBg
import Derived.Test.YtnoaomocdmkigabSl
import Derived.Test.YtnoaomocdmkigabBh
import Derived.Test.YtnoaomocdmkigabPr
namespace Go.Proofs.Ytnoaomocdmkigab
open Go.RowKit
open Pu Gp Ap

/-- the cells of points -/
def ptsOf (ps : List (Int × Int)) : List Value := ps.flatMap fun p => [.int .i64 p.1, .int .i64 p.2]
theorem ptsOf_len (ps : List (Int × Int)) : (ptsOf ps).length = ps.length * 2 := by
  induction ps with
  | nil => rfl
  | cons p l ih => simp only [ptsOf, List.flatMap_cons, List.length_append, List.length_cons, List.length_nil] at ih ⊢; omega
theorem ptsOf_app (ps qs : List (Int × Int)) : ptsOf (ps ++ qs) = ptsOf ps ++ ptsOf qs := by simp [ptsOf]
theorem ptsOf_one (ps : List (Int × Int)) : ∀ u ∈ ptsOf ps, u.oneCell' = true := by
  intro u hu
  simp only [ptsOf, List.mem_flatMap] at hu
  obtain ⟨p, _, hp⟩ := hu
  simp at hp
  rcases hp with rfl | rfl <;> rfl
theorem ptsOf_get : ∀ (ps : List (Int × Int)) (j : Nat) (h : j < ps.length), (ptsOf ps)[j * 2]? = some (.int .i64 (ps[j]).1) ∧ (ptsOf ps)[j * 2 + 1]? = some (.int .i64 (ps[j]).2)
  | [], j, h => by simp at h
  | p :: l, 0, h => by simp [ptsOf]
  | p :: l, j + 1, h => by
    have ih := ptsOf_get l j (by simpa using h)
    have e : ptsOf (p :: l) = [.int .i64 p.1, .int .i64 p.2] ++ ptsOf l := by simp [ptsOf]
    rw [e]
    rw [List.getElem?_append_right (by simp; omega), List.getElem?_append_right (by simp; omega)]
    simp only [List.length_cons, List.length_nil, List.getElem_cons_succ]
    rw [show (j + 1) * 2 - (0 + 1 + 1) = j * 2 by omega, show (j + 1) * 2 + 1 - (0 + 1 + 1) = j * 2 + 1 by omega]
    exact ih
/-- v owns a row of these points (from block B on) -/
def OwP (w : World) (B : Nat) (v : Value) (ps : List (Int × Int)) : Prop := w.ownsRow B 32 2 v ps.length (ptsOf ps)
theorem OwP.nil (w : World) (B : Nat) : OwP w B (.slice none 0 0) [] := World.ownsRow_nil w B _ 2
theorem OwP.keep {F : Nat → Prop} {w w' : World} {B : Nat} {v : Value} {ps : List (Int × Int)} (h : OwP w B v ps) (hf : Fr F w w') (hF : ∀ k, F k → v.ownBlock ≠ some k) : OwP w' B v ps := by
  refine ⟨h.1, ?_⟩
  rcases h.2 with hn | ⟨g, cap, cur, rfl, hb, hg, rest⟩
  · exact .inl hn
  · exact .inr ⟨g, cap, cur, rfl, hb, hf.kept hg (fun h => hF g h rfl), rest⟩
theorem OwP.still {w w' : World} {B : Nat} {v : Value} {ps : List (Int × Int)} (h : OwP w B v ps) (hf : Still w w') : OwP w' B v ps := h.keep hf (fun _ e => e.elim)
theorem OwP.alloc {w : World} {B : Nat} {v : Value} {ps : List (Int × Int)} (h : OwP w B v ps) (o : Obj) : OwP (w.alloc o) B v ps := h.still (Still.alloc w o)
theorem OwP.less {w : World} {B B' : Nat} {v : Value} {ps : List (Int × Int)} (h : OwP w B v ps) (hb : B' ≤ B) : OwP w B' v ps := by
  refine ⟨h.1, ?_⟩
  rcases h.2 with hn | ⟨g, cap, cur, rfl, hg, rest⟩
  · exact .inl hn
  · exact .inr ⟨g, cap, cur, rfl, by omega, rest⟩
theorem OwP.slice {w : World} {B : Nat} {v : Value} {ps : List (Int × Int)} (h : OwP w B v ps) : ∃ ao cap, v = .slice ao ps.length cap ∧ (ao = none ∨ ∃ g, ao = some ⟨g, 0, none⟩ ∧ B ≤ g ∧ g < w.heap.size) := by
  rcases h.2 with ⟨rfl, hn⟩ | ⟨g, cap, cur, rfl, hb, hg, rest⟩
  · exact ⟨none, 0, by rw [hn], .inl rfl⟩
  · exact ⟨_, cap, rfl, .inr ⟨g, rfl, hb, block_lt hg⟩⟩
theorem OwP.block {w : World} {B k : Nat} {v : Value} {ps : List (Int × Int)} (h : OwP w B v ps) (hk : v.ownBlock = some k) : B ≤ k ∧ k < w.heap.size := h.lt k hk
theorem OwP.head {w : World} {B : Nat} {v : Value} {ps : List (Int × Int)} (h : OwP w B v ps) (hn : 0 < ps.length) : ∃ g cap, v = .slice (some ⟨g, 0, none⟩) ps.length cap ∧ B ≤ g ∧ g < w.heap.size := by
  rcases h.2 with ⟨rfl, h0⟩ | ⟨g, cap, cur, rfl, hb, hg, rest⟩
  · omega
  · exact ⟨g, cap, rfl, hb, block_lt hg⟩
theorem OwP.cell {w : World} {B g n cap : Nat} {ps : List (Int × Int)} (h : OwP w B (.slice (some ⟨g, 0, none⟩) n cap) ps) (j : Nat) (hj : j < ps.length) :
    w.cell? ⟨g, j * 2, none⟩ = some (.int .i64 (ps[j]).1) ∧ w.cell? ⟨g, j * 2 + 1, none⟩ = some (.int .i64 (ps[j]).2) ∧ ∀ o, w.frozen? ⟨g, o, none⟩ = false := by
  obtain ⟨h1, h2⟩ := ptsOf_get ps j hj
  have k1 := World.ownsRow.cells h (g := g) rfl _ _ h1
  have k2 := World.ownsRow.cells h (g := g) rfl _ _ h2
  rw [add_plain, Nat.zero_add] at k1 k2
  refine ⟨k1, k2, fun o => ?_⟩
  rcases h.2 with ⟨hv, _⟩ | ⟨g', cap', cur, hv, hb, hg, rest⟩
  · cases hv
  · cases hv; exact frozen_of_row w g o _ _ hg
theorem ptsOf_set : ∀ (ps : List (Int × Int)) (j : Nat) (_ : j < ps.length) (x y : Int), ((ptsOf ps).set (j * 2) (.int .i64 x)).set (j * 2 + 1) (.int .i64 y) = ptsOf (ps.set j (x, y))
  | [], j, h, x, y => by simp at h
  | p :: l, 0, h, x, y => by simp [ptsOf]
  | p :: l, j + 1, h, x, y => by
    have ih := ptsOf_set l j (by simpa using h) x y
    have e : ∀ (p : Int × Int) (l : List (Int × Int)), ptsOf (p :: l) = .int .i64 p.1 :: .int .i64 p.2 :: ptsOf l := fun p l => by simp [ptsOf]
    rw [List.set_cons_succ, e, e, ← ih, show (j + 1) * 2 = j * 2 + 1 + 1 by omega, show j * 2 + 1 + 1 + 1 = j * 2 + 1 + 1 + 1 from rfl]
    simp only [List.set_cons_succ]
theorem OwP.set {w : World} {B g n cap : Nat} {ps : List (Int × Int)} (h : OwP w B (.slice (some ⟨g, 0, none⟩) n cap) ps) (j : Nat) (hj : j < ps.length) (x y : Int) :
    OwP ((w.setCell ⟨g, j * 2, none⟩ (.int .i64 x)).setCell ⟨g, j * 2 + 1, none⟩ (.int .i64 y)) B (.slice (some ⟨g, 0, none⟩) n cap) (ps.set j (x, y)) := by
  have hl := h.1
  rcases h.2 with ⟨hv, _⟩ | ⟨g', cap', cur, hv, hb, hg, hn, hm, hs, ht⟩
  · cases hv
  · cases hv
    have h1 := heap_setCell_same w g (j * 2) _ _ (.int .i64 x) hg
    have h2 := heap_setCell_same _ g (j * 2 + 1) _ _ (.int .i64 y) h1
    refine ⟨by rw [ptsOf_len, List.length_set], .inr ⟨g, cap, _, by rw [List.length_set], hb, h2, by rw [List.length_set]; exact hn, hm, by rw [Array.size_setIfInBounds, Array.size_setIfInBounds]; exact hs, ?_⟩⟩
    rw [List.length_set, ← ptsOf_set ps j hj x y, ← ht]
    simp only [Array.toList_setIfInBounds]
    rw [List.take_set, List.take_set]
theorem info_pt : ∃ i, Try.prog.info? 32 = some i ∧ i.zero = some (pt 0 0) ∧ i.size = 2 ∧ i.bytes = 16 := ⟨_, rfl, rfl, rfl, rfl⟩
/-- 'append(s, p)' of points, s its owner's: as the walk takes it. -/
theorem wpList_appP (w : World) {ops : Array Oper} {rest : List Oper} {o : Oper} {a : Act} {Q : Exit → Act → World → Prop} (hgd : o.guard = none) (s x : Operand)
    (hop : o.op = .call { callee := .builtin .append, args := #[s, x], argTypes := #[49, 49] })
    (B g : Nat) (v : Value) (ps : List (Int × Int)) (p q : Int) (hs : a.eval s = v) (hx : a.eval x = .slice (some ⟨g, 0, none⟩) 1 1) (ho : OwP w B v ps) (hr : Pb w g p q) (h47 : ps.length ≤ 100000) (hB : B ≤ w.heap.size)
    (h : ∀ v' w', OwP w' B v' (ps ++ [(p, q)]) → Fr (fun k => v.ownBlock = some k) w w' → wpList Try.prog ops Q rest (a.put o.dst v') w') : wpList Try.prog ops Q (o :: rest) a w := by
  obtain ⟨i, hi, hz, h1, h2⟩ := info_pt
  refine wpList_append_own (P := Try.prog) w hgd s x 49 hop B 32 i (pt 0 0) 2 16 Try.underlying49 hi hz h1 h2 rfl (by omega) v ps.length (ptsOf ps) hs ho ⟨g, 0, none⟩ 1 1 (ptsOf [(p, q)]) hx rfl ?_ (ptsOf_one _) (by unfold maxLen; omega) (by omega) hB ?_
  · intro j u hu
    rw [add_plain, Nat.zero_add]
    have hj : j < 2 := by
      have := (List.getElem?_eq_some_iff.1 hu).1
      simpa [ptsOf] using this
    rcases (show j = 0 ∨ j = 1 by omega) with rfl | rfl
    · simp [ptsOf] at hu; subst hu; exact hr.cells.1
    · simp [ptsOf] at hu; subst hu; exact hr.cells.2.1
  · intro v' w' hown hgr _
    refine h v' w' ?_ ⟨hgr.os, hgr.tape, hgr.output, hgr.size, fun k hk hn => hgr.block k hk (fun e => hn e.symm)⟩
    unfold OwP
    rw [ptsOf_app, List.length_append]
    exact hown
/-- what is appended to new memory is new memory -/
theorem still_appP {w0 w w' : World} {B : Nat} {v : Value} {ps : List (Int × Int)} (hs : Still w0 w) (ho : OwP w B v ps) (hf : Fr (fun k => v.ownBlock = some k) w w') (hB : w0.heap.size ≤ B) : Still w0 w' :=
  Fr.trans hs hf (fun k hk e => by have := (ho.block e).1; omega)
end Go.Proofs.Ytnoaomocdmkigab
namespace Go.Proofs.Ytnoaomocdmkigab
open Go.RowKit
open Pu Gp Ap

def midX (C k : Nat) : Int := ((k % C : Nat) : Int) * 4096 + 2048
def midY (C k : Nat) : Int := ((k / C : Nat) : Int) * 4096 + 2048
set_option maxHeartbeats 1000000 in
theorem midpoint_any (C k : Nat) (R : Int) (s : ByteArray) (hC : 1 ≤ C) (hC2 : C ≤ 32) (hk : k ≤ 768) (w : World) :
    Calls Try.prog 38 #[ar (C : Int) R s, .int .i64 (k : Int)] w fun e w' => e = .returned (pt (midX C k) (midY C k)) ∧ Still w w' := by
  obtain ⟨W, eW⟩ : ∃ W, W = (newP (newA w (C : Int) R s) 0 0) := ⟨_, rfl⟩
  have a0 : Ab W w.heap.size (C : Int) R s := by rw [eW]; exact (newA_ab w (C : Int) R s).still (Still.alloc _ _)
  have r : Pb W (w.heap.size + 1) 0 0 := by rw [eW]; have h := newP_pb (newA w (C : Int) R s) 0 0; simp only [size_alloc] at h; exact h
  have HF := hid (show Still w W by rw [eW]; exact (Still.alloc w _).trans (Still.alloc _ _))
  have c0 := Cl.cell a0.cells.1
  have HW := hid eW
  have hne := Aft.here W
  clear eW a0
  have HB := hid (show w.heap.size ≤ w.heap.size + 1 by omega)
  have e1 : (k : Int).tmod (C : Int) = ((k % C : Nat) : Int) := by rw [Int.tmod_eq_emod_of_nonneg (by omega)]; exact (Int.natCast_emod k C).symm
  have e2 : (k : Int).tdiv (C : Int) = ((k / C : Nat) : Int) := by rw [Int.tdiv_eq_ediv_of_nonneg (by omega)]; exact (Int.natCast_ediv k C).symm
  have b1 : k % C ≤ 768 := Nat.le_trans (Nat.mod_le k C) hk
  have b2 : k / C ≤ 768 := Nat.le_trans (Nat.div_le_self k C) hk
  obtain ⟨m, em⟩ : ∃ m, k % C = m := ⟨_, rfl⟩
  obtain ⟨q, eq⟩ : ∃ q, k / C = q := ⟨_, rfl⟩
  have HV := hid (show midX C k = (m : Int) * 4096 + 2048 ∧ midY C k = (q : Int) * 4096 + 2048 by unfold midX midY; rw [em, eq]; exact ⟨rfl, rfl⟩)
  rw [em] at e1 b1
  rw [eq] at e2 b2
  rw [HV.out.1, HV.out.2]
  clear em eq
  have nz : ¬ C = 0 := by omega
  have W1 : IntKind.i64.wrap (m : Int) = (m : Int) := by rw [IntKind.wrap_i64]; omega
  have W2 : IntKind.i64.wrap (q : Int) = (q : Int) := by rw [IntKind.wrap_i64]; omega
  go_enter Try.func38, Try.ntmps38
  go_wp2_with fail
  have e := HW.out
  simp only [newP, newA] at e
  rw [← e]
  clear e HW
  refine region_rest 13 (by kernel_rfl) (by kernel_rfl) ?_
  simp only [List.take_succ_cons, List.take_zero, List.drop_succ_cons, List.drop_zero]
  repeat (go_big_quiet_step (fail))
  refine wpQuiet_nil ?_
  intro w1 hs
  clear hne c0
  have v := r.still hs
  obtain ⟨d0, d1, df⟩ := v.cells
  go_wp2_with fail
  (try simp only [Exit.inBlock, Exit.then])
  exact bodyPost_ret ((v.set _ _).res rfl _ rfl) rfl ⟨rfl, setP_fr (HF.out.trans hs) _ _ _ (.inr HB.out)⟩
end Go.Proofs.Ytnoaomocdmkigab
namespace Go.Proofs.Ytnoaomocdmkigab
open Go.RowKit
open Pu Gp Ap

/-- the midpoints of the first n starts, of the spots among the first n cells -/
def stP (C : Nat) (s : ByteArray) (n : Nat) : List (Int × Int) := (List.range n).map fun (i : Nat) => (midX C (fnd s (49 + (i : Int)) 0).toNat, midY C (fnd s (49 + (i : Int)) 0).toNat)
def spP (C : Nat) (s : ByteArray) : Nat → List (Int × Int)
  | 0 => []
  | n + 1 => spP C s n ++ if byt s n = 42 then [(midX C n, midY C n)] else []
theorem stP_len (C : Nat) (s : ByteArray) (n : Nat) : (stP C s n).length = n := by simp [stP]
theorem stP_succ (C : Nat) (s : ByteArray) (n : Nat) : stP C s (n + 1) = stP C s n ++ [(midX C (fnd s (49 + (n : Int)) 0).toNat, midY C (fnd s (49 + (n : Int)) 0).toNat)] := by simp [stP, List.range_succ]
theorem spP_len (C : Nat) (s : ByteArray) : ∀ n, (spP C s n).length ≤ n
  | 0 => Nat.le_refl _
  | n + 1 => by
    have := spP_len C s n
    rw [spP, List.length_append]
    split <;> simp <;> omega
def stV (C : Int) (s : ByteArray) (v : Int) : List (Int × Int) := if v = 0 then stP C.toNat s (mny s) else []
def spV (C : Int) (s : ByteArray) (v : Int) : List (Int × Int) := if v = 0 then spP C.toNat s s.size else []
theorem stL_at (s : ByteArray) (n k : Nat) (h : k < n) : (stL s n)[k]'(by rw [stL_len]; exact h) = fnd s (49 + (k : Int)) 0 := by simp [stL]
theorem fnd_in {s : ByteArray} {k : Nat} (h : k < mny s) : ∃ i : Nat, fnd s (49 + (k : Int)) 0 = (i : Int) ∧ i < s.size := by
  have c := mnyF_found 6 0 k (by omega) h
  rcases fnd_spec s (49 + (k : Int)) 0 (by omega) with ⟨e, _⟩ | ⟨i, e, _, h2, _, _⟩
  · omega
  · exact ⟨i, e, h2⟩
set_option maxHeartbeats 4000000 in
set_option maxRecDepth 100000 in
theorem starts_any (C R : Int) (s : ByteArray) (w : World) :
    Calls Try.prog 19 #[ar C R s] w fun e w' => ∃ v u, e = .returned v ∧ ChkV C R s u ∧ OwP w' w.heap.size v (stV C s u) ∧ Still w w' := by
  have p := newA_ab w C R s
  go_enter Try.func19, Try.ntmps19
  obtain ⟨c0, c1, c2, cf⟩ := p.cells
  go_wp2_with fail
  refine (mapcheck_any C R s _).mono ?_
  rintro e w1 ⟨u, rfl, hv, h1⟩
  have p1 := p.still h1
  have HS1 := hid ((Still.alloc w (.cells #[.int .i64 C, .int .i64 R, .string s] 23)).trans h1)
  clear p h1 c0 c1 c2 cf
  obtain ⟨c0, c1, c2, cf⟩ := p1.cells
  have HV := hid hv
  by_cases h0 : u = 0
  · subst h0
    obtain ⟨q1, q2, q3, q4, q5, q6⟩ := form_shape (chkV_ok hv)
    obtain ⟨c, rfl⟩ : ∃ c : Nat, C = c := ⟨C.toNat, by omega⟩
    clear hv q5
    go_wp2_with fail
    refine (startsOf_any _ _ _ _).mono ?_
    rintro e w2 ⟨ao, cap, rfl, o2, h2, _⟩
    have p2 := p1.still h2
    have HS2 := hid (HS1.out.trans h2)
    clear p1 h2 HS1 c0 c1 c2 cf
    go_wp2_with fail
    have HFI := hid (fun k (h : k < mny s) => fnd_in h)
    have six := mny_six s
    have HTV := hid (show stV (c : Int) s 0 = stP c s (mny s) by unfold stV; rw [if_pos rfl, Int.toNat_natCast])
    obtain ⟨n, en⟩ : ∃ n, mny s = n := ⟨_, rfl⟩
    have HO2 := hid o2
    clear o2
    rw [en] at HO2 HFI six HTV ⊢
    clear en
    have hsz := HS2.out.size
    go_loopw [3, 12] (fun v u wr => ∃ k : Nat, k ≤ n ∧ u = .int .i64 (k : Int) ∧ OwP wr w2.heap.size v (stP c s k) ∧ Still w2 wr) (fun _ u _ => n - (intOf u).toNat)
    case atStart => exact ⟨0, by omega, rfl, OwP.nil _ _, Fr.refl _ _⟩
    case round =>
      obtain ⟨k, hk, rfl, o3, hs⟩ := hrel
      by_cases hlt : k < n
      · obtain ⟨i, ei, hi⟩ := HFI.out k hlt
        have o4 := HO2.out.still hs
        obtain ⟨g, rfl⟩ := o4.head (by omega)
        have cg := o4.rd.byte (k := k) (by rw [stL_len]; exact hlt)
        rw [stL_at s n k hlt, ei] at cg
        simp only [Nat.zero_add] at cg
        obtain ⟨c0, c1, c2, cf⟩ := (p2.still hs).cells
        have HM := hid (fun u => midpoint_any c i R s (by omega) (by omega) (by omega) u)
        have HSP := hid (show stP c s (k + 1) = stP c s k ++ [(midX c i, midY c i)] by rw [stP_succ, ei, Int.toNat_natCast])
        have HK := hid (show (stP c s k).length ≤ 100000 by rw [stP_len]; omega)
        have HS3 := hid hs
        have HO3 := hid o3
        obtain ⟨X, eX⟩ : ∃ X, midX c i = X := ⟨_, rfl⟩
        obtain ⟨Y, eY⟩ : ∃ Y, midY c i = Y := ⟨_, rfl⟩
        rw [eX, eY] at HM HSP
        clear o4 ei hs o3 eX eY
        go_wp2_with fail
        refine (HM.out _).mono ?_
        rintro e w5 ⟨rfl, h5⟩
        have HS5 := hid ((HS3.out.trans h5).trans (Still.alloc w5 (.cells #[.int .i64 X, .int .i64 Y] 32)))
        have HO5 := hid ((HO3.out.still h5).alloc (.cells #[.int .i64 X, .int .i64 Y] 32))
        have HP5 := hid (newP_pb w5 X Y)
        have HZ := hid (HS5.out.size)
        clear h5 HO3 HS3 cg c0 c1 c2 cf
        go_wp2_with (at_builtin; refine wpList_appP _ rfl _ _ rfl w2.heap.size w5.heap.size _ (stP c s k) X Y rfl rfl HO5.out HP5.out HK.out HZ.out ?_; intro v' w' ho' hf')
        have HS6 := hid (still_appP HS5.out HO5.out hf' (Nat.le_refl _))
        go_roundw
        case rel => exact ⟨k + 1, by omega, by go_num, by rw [HSP.out]; exact ho', HS6.out⟩
        case measure => simp [intOf]; omega
      · obtain rfl : k = n := by omega
        have HS3 := hid (HS2.out.trans hs)
        clear hs
        go_wp2_with fail
        go_ret
        exact ⟨_, 0, rfl, HV.out, by rw [HTV.out]; exact o3.less hsz, HS3.out⟩
  · have hv' : (u != 0) = true := by simpa using h0
    have HT := hid (show stV C s u = [] by unfold stV; rw [if_neg h0])
    clear hv h0
    go_wp2_with fail
    go_ret
    exact ⟨_, u, rfl, HV.out, by rw [HT.out]; exact OwP.nil _ _, HS1.out⟩
set_option maxHeartbeats 4000000 in
set_option maxRecDepth 100000 in
theorem spots_any (C R : Int) (s : ByteArray) (w : World) :
    Calls Try.prog 20 #[ar C R s] w fun e w' => ∃ v u, e = .returned v ∧ ChkV C R s u ∧ OwP w' w.heap.size v (spV C s u) ∧ Still w w' := by
  have p := newA_ab w C R s
  go_enter Try.func20, Try.ntmps20
  obtain ⟨c0, c1, c2, cf⟩ := p.cells
  go_wp2_with fail
  refine (mapcheck_any C R s _).mono ?_
  rintro e w1 ⟨u, rfl, hv, h1⟩
  have p1 := p.still h1
  have HS1 := hid ((Still.alloc w (.cells #[.int .i64 C, .int .i64 R, .string s] 23)).trans h1)
  clear p h1 c0 c1 c2 cf
  obtain ⟨c0, c1, c2, cf⟩ := p1.cells
  have HV := hid hv
  by_cases h0 : u = 0
  · subst h0
    obtain ⟨q1, q2, q3, q4, q5, q6⟩ := form_shape (chkV_ok hv)
    obtain ⟨c, rfl⟩ : ∃ c : Nat, C = c := ⟨C.toNat, by omega⟩
    clear hv q5
    go_wp2_with fail
    have HTV := hid (show spV (c : Int) s 0 = spP c s s.size by unfold spV; rw [if_pos rfl, Int.toNat_natCast])
    have hsz := HS1.out.size
    clear c0 c1 c2 cf
    go_loopw [3, 11] (fun v u wr => ∃ k : Nat, k ≤ s.size ∧ u = .int .i64 (k : Int) ∧ OwP wr w1.heap.size v (spP c s k) ∧ Still w1 wr) (fun _ u _ => s.size - (intOf u).toNat)
    case atStart => exact ⟨0, by omega, rfl, OwP.nil _ _, Fr.refl _ _⟩
    case round =>
      obtain ⟨k, hk, rfl, o3, hs⟩ := hrel
      obtain ⟨c0, c1, c2, cf⟩ := (p1.still hs).cells
      have HS3 := hid hs
      have HO3 := hid o3
      clear hs o3
      by_cases hlt : k < s.size
      · have e := byt_at s k hlt
        obtain ⟨b, eb⟩ : ∃ b, byt s k = b := ⟨_, rfl⟩
        rw [eb] at e
        by_cases h42 : b = 42
        · subst h42
          have HM := hid (fun u => midpoint_any c k R s (by omega) (by omega) (by omega) u)
          have HSP := hid (show spP c s (k + 1) = spP c s k ++ [(midX c k, midY c k)] by rw [spP, if_pos eb])
          have HK := hid (show (spP c s k).length ≤ 100000 by have := spP_len c s k; omega)
          obtain ⟨X, eX⟩ : ∃ X, midX c k = X := ⟨_, rfl⟩
          obtain ⟨Y, eY⟩ : ∃ Y, midY c k = Y := ⟨_, rfl⟩
          rw [eX, eY] at HM HSP
          clear eb eX eY
          go_wp2_with fail
          refine (HM.out _).mono ?_
          rintro e w5 ⟨rfl, h5⟩
          have HS5 := hid ((HS3.out.trans h5).trans (Still.alloc w5 (.cells #[.int .i64 X, .int .i64 Y] 32)))
          have HO5 := hid ((HO3.out.still h5).alloc (.cells #[.int .i64 X, .int .i64 Y] 32))
          have HP5 := hid (newP_pb w5 X Y)
          have HZ := hid (HS5.out.size)
          clear h5 HO3 HS3 c0 c1 c2 cf
          go_wp2_with (at_builtin; refine wpList_appP _ rfl _ _ rfl w1.heap.size w5.heap.size _ (spP c s k) X Y rfl rfl HO5.out HP5.out HK.out HZ.out ?_; intro v' w' ho' hf')
          have HS6 := hid (still_appP HS5.out HO5.out hf' (Nat.le_refl _))
          go_roundw
          case rel => exact ⟨k + 1, by omega, by go_num, by rw [HSP.out]; exact ho', HS6.out⟩
          case measure => simp [intOf]; omega
        · have n42 : (b == 42) = false := by simpa using h42
          have HSP := hid (show spP c s (k + 1) = spP c s k by rw [spP, eb, if_neg h42, List.append_nil])
          clear eb h42
          go_wp2_with fail
          go_roundw
          case rel => exact ⟨k + 1, by omega, by go_num, by rw [HSP.out]; exact HO3.out, HS3.out⟩
          case measure => simp [intOf]; omega
      · have HSZ := hid (show spP c s k = spP c s s.size by rw [show k = s.size by omega])
        have hge : (s.size : Int) ≤ (k : Int) := by omega
        clear hlt
        go_wp2_with fail
        go_ret
        exact ⟨_, 0, rfl, HV.out, by rw [HTV.out, ← HSZ.out]; exact HO3.out.less hsz, HS1.out.trans HS3.out⟩
  · have hv' : (u != 0) = true := by simpa using h0
    have HT := hid (show spV C s u = [] by unfold spV; rw [if_neg h0])
    clear hv h0
    go_wp2_with fail
    go_ret
    exact ⟨_, u, rfl, HV.out, by rw [HT.out]; exact OwP.nil _ _, HS1.out⟩
end Go.Proofs.Ytnoaomocdmkigab
