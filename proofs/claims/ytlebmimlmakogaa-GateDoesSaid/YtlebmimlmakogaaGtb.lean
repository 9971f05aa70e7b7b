/- Stage 21, memory: a gate; rows of numbers. -/
import Derived.Test.YtlebmimlmakogaaGta
import Derived.Laws.AppendOwnNone
import Derived.Lib.SliceRun
namespace Go.Proofs.Ytlebmimlmakogaa
open Go.RowKit
set_option maxRecDepth 100000

abbrev i64T : TypeId := 2
abbrev rowT : TypeId := 35
/-- rows of numbers -/
def KJ : Kd Int := ⟨fun s => [.int .i64 s], 1, 0, fun _ => rfl, fun m u hu => by
  simp at hu
  subst hu
  rfl, by decide⟩
theorem infoJ : ∃ i, Try.prog.info? i64T = some i ∧ i.zero = some (.int .i64 0) ∧ i.size = KJ.k ∧ i.bytes = 8 := ⟨_, rfl, rfl, rfl, rfl⟩
theorem infoJ' : (Try.prog.info? i64T).map (fun i => (i.zero, i.size, i.bytes)) = some (some (.int .i64 0), 1, 8) := rfl
theorem KJ_row : ∀ L : List Int, KJ.row L = L.map (Value.int .i64)
  | [] => rfl
  | x :: L => by rw [Kd.row_cons, KJ_row L]; rfl
theorem rdJ {w : World} {B o n : Nat} {L : List Int} (h : RdG KJ w (some ⟨B, o, none⟩) n L) {i : Nat} (hi : i < n) : w.cell? ⟨B, o + i, none⟩ = some (.int .i64 (L.getD i 0)) := by
  have := h.get hi 0 _ rfl
  simpa [KJ] using this
theorem owJ {e : TypeId} {w : World} {B g n cap : Nat} {L : List Int} (h : OwG KJ e w B (.slice (some ⟨g, 0, none⟩) n cap) L) {i : Nat} (hi : i < L.length) : w.cell? ⟨g, i, none⟩ = some (.int .i64 (L.getD i 0)) := by
  have := h.get hi 0 _ rfl
  simpa [KJ] using this
theorem OwG.putJ {e : TypeId} {w : World} {B g n cap : Nat} {L : List Int} (h : OwG KJ e w B (.slice (some ⟨g, 0, none⟩) n cap) L) {i : Nat} (hi : i < L.length) (x : Int) : OwG KJ e (w.setCell ⟨g, i, none⟩ (.int .i64 x)) B (.slice (some ⟨g, 0, none⟩) n cap) (L.set i x) := by
  have := h.put hi x
  simpa [KJ, World.setCells] using this
theorem makeJ (n : Nat) (hn : n ≤ 1000000) : (∀ W : World, (Instr.makeSlice rowT (.int .i64 (n : Int)) (.int .i64 (n : Int))).run Try.prog W = .ok (.slice (some ⟨W.heap.size, 0, none⟩) n n) (W.alloc (.cells (madeCells #[.int .i64 0] n) i64T))) ∧
    ∀ W : World, OwG KJ i64T (W.alloc (.cells (madeCells #[.int .i64 0] n) i64T)) W.heap.size (.slice (some ⟨W.heap.size, 0, none⟩) n n) (List.replicate n 0) := by
  refine ⟨fun W => run_make_row' (P := Try.prog) rowT i64T (.int .i64 0) 8 Try.underlying35 infoJ' rfl .i64 .i64 n (by omega) (by omega) W, fun W => ?_⟩
  have := World.ownsRow_lit (base := W.heap.size) (e := i64T) (size := KJ.k) W (madeCells #[.int .i64 0] n) n (Nat.le_refl _) (by unfold maxLen; omega) (by rw [size_madeCells]; simp [KJ])
  have e := KJ.made n
  rw [show (KJ.f KJ.d).toArray = #[.int .i64 0] from rfl, show n * KJ.k = n from Nat.mul_one n] at e
  rw [e] at this
  unfold OwG
  rw [List.length_replicate]
  exact this
/-- block p holds a gate (t: the program's, or the document's), its marks lie in row g -/
structure Gt (t : TypeId) (w : World) (B p s g n : Nat) (L : List Int) : Prop where
  bk : w.heap[p]? = some (.cells #[.int .i64 (s : Int), .slice (some ⟨g, 0, none⟩) n n] t (0, 0))
  ow : OwG KJ i64T w B (.slice (some ⟨g, 0, none⟩) n n) L
  lo : B ≤ p
  len : L.length = n
  sl : s < n
  l2 : 2 ≤ n
  l6 : n ≤ 6
  mb : ∀ i, i < n → 0 ≤ L.getD i 0 ∧ L.getD i 0 ≤ 1099511627776
  sz : L.getD s 0 = 0
section
variable {t : TypeId} {w w' : World} {B p s g n : Nat} {L : List Int}
theorem Gt.cells (h : Gt t w B p s g n L) : w.cell? ⟨p, 0, none⟩ = some (.int .i64 (s : Int)) ∧ w.cell? ⟨p, 1, none⟩ = some (.slice (some ⟨g, 0, none⟩) n n) := by
  constructor <;> (rw [cell_of_row _ _ _ _ _ _ h.bk]; rfl)
theorem Gt.row (h : Gt t w B p s g n L) : ∃ cur, w.heap[g]? = some (.cells cur i64T (0, 0)) := by
  rcases h.ow.2 with ⟨hv, _⟩ | ⟨g', cap, cur, hv, hb, hg, rest⟩
  · cases hv
  · cases hv; exact ⟨cur, hg⟩
theorem Gt.glt (h : Gt t w B p s g n L) : B ≤ g ∧ g < w.heap.size := h.ow.block rfl
theorem Gt.plt (h : Gt t w B p s g n L) : p < w.heap.size := block_lt h.bk
theorem Gt.keep {F : Nat → Prop} (h : Gt t w B p s g n L) (hf : Fr F w w') (hp : ¬ F p) (hg : ¬ F g) : Gt t w' B p s g n L :=
  ⟨hf.kept h.bk hp, h.ow.keep hf (fun k hk e => hg (by cases e; exact hk)), h.lo, h.len, h.sl, h.l2, h.l6, h.mb, h.sz⟩
theorem Gt.still (h : Gt t w B p s g n L) (hs : Still w w') : Gt t w' B p s g n L := h.keep hs (fun e => e) (fun e => e)
theorem Gt.less {B' : Nat} (h : Gt t w B p s g n L) (hb : B' ≤ B) : Gt t w B' p s g n L := ⟨h.bk, h.ow.less hb, Nat.le_trans hb h.lo, h.len, h.sl, h.l2, h.l6, h.mb, h.sz⟩
theorem Gt.cell (h : Gt t w B p s g n L) {i : Nat} (hi : i < n) : w.cell? ⟨g, i, none⟩ = some (.int .i64 (L.getD i 0)) := owJ h.ow (by rw [h.len]; exact hi)
theorem Gt.frozen (h : Gt t w B p s g n L) (o : Nat) : w.frozen? ⟨g, o, none⟩ = false := h.ow.frozen o
theorem getD_set (L : List Int) (i j : Nat) (x : Int) (hi : i < L.length) : (L.set i x).getD j 0 = if j = i then x else L.getD j 0 := by
  rw [List.getD_eq_getElem?_getD, List.getElem?_set]
  by_cases h : i = j
  · subst h; simp [hi]
  · rw [if_neg h, if_neg (fun e => h e.symm), List.getD_eq_getElem?_getD]
theorem Gt.put (h : Gt t w B p s g n L) (hne : t ≠ i64T) {i : Nat} (hi : i < n) (hs : i ≠ s) {f : Int} (hf : 0 ≤ f ∧ f ≤ 1099511627776) : Gt t (w.setCell ⟨g, i, none⟩ (.int .i64 (max (L.getD i 0) f))) B p s g n (mkL L i f) := by
  have hpg : p ≠ g := fun e => by
    obtain ⟨cur, hc⟩ := h.row
    have hb := h.bk
    rw [e, hc] at hb
    injection hb with hb
    injection hb with _ h2 _
    exact hne h2.symm
  have hl : i < L.length := by rw [h.len]; exact hi
  have hm := h.mb i hi
  have e : ∀ j, (mkL L i f).getD j 0 = if j = i then max (L.getD i 0) f else L.getD j 0 := fun j => getD_set L i j _ hl
  refine ⟨?_, h.ow.putJ hl _, h.lo, by unfold mkL; rw [List.length_set]; exact h.len, h.sl, h.l2, h.l6, fun j hj => ?_, ?_⟩
  · exact ((Fr.refl (fun k => k = g) w).setCell ⟨g, i, none⟩ _ (.inl rfl)).kept h.bk hpg
  · have := h.mb j hj
    rw [e j]
    split
    · omega
    · exact this
  · rw [e s, if_neg (fun e => hs e.symm)]
    exact h.sz
theorem getD_rep (n i : Nat) : (List.replicate n (0 : Int)).getD i 0 = 0 := by
  rw [List.getD_eq_getElem?_getD, List.getElem?_replicate]
  split <;> rfl
theorem Gt.fresh (w : World) (t : TypeId) {n s : Nat} (h : 2 ≤ n ∧ n ≤ 6 ∧ s < n) : Gt t ((w.alloc (.cells (madeCells #[.int .i64 0] n) i64T)).alloc (.cells #[.int .i64 (s : Int), .slice (some ⟨w.heap.size, 0, none⟩) n n] t)) w.heap.size (w.heap.size + 1) s w.heap.size n (List.replicate n 0) := by
  refine ⟨?_, ((makeJ n (by omega)).2 w).still (Still.alloc _ _), by omega, by simp, h.2.2, h.1, h.2.1, fun i _ => by rw [getD_rep]; omega, getD_rep _ _⟩
  have := heap_alloc_new (w.alloc (.cells (madeCells #[.int .i64 0] n) i64T)) (.cells #[.int .i64 (s : Int), .slice (some ⟨w.heap.size, 0, none⟩) n n] t)
  rw [size_alloc] at this
  exact this
theorem Gt.rd (h : Gt t w B p s g n L) : RdG KJ w (some ⟨g, 0, none⟩) n L := by
  have := OwG.rd (M := []) (by rw [List.append_nil]; exact h.ow) (by rw [h.len]; have := h.l6; omega)
  rw [h.len] at this
  exact this
end
/-- a number's row read from its j-th on -/
theorem RdG.dropJ {w : World} {G o n : Nat} {L : List Int} (h : RdG KJ w (some ⟨G, o, none⟩) n L) {j : Nat} (hj : j ≤ n) : RdG KJ w (some ⟨G, o + j, none⟩) (n - j) (L.drop j) := by
  refine ⟨by rw [List.length_drop, h.1], by have := h.2.1; omega, .inr ⟨G, o + j, rfl, fun i hi k u hu => ?_⟩⟩
  have := h.get (i := j + i) (by omega) k u (by
    rw [← hu]
    congr 2
    simp [List.getD, List.getElem?_drop])
  rw [show o + j + i * KJ.k + k = o + (j + i) * KJ.k + k by simp [KJ]; omega]
  exact this
end Go.Proofs.Ytlebmimlmakogaa
