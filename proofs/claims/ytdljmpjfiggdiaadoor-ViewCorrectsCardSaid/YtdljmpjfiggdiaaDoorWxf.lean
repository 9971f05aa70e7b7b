/- The program's table of notes: rows, rowOf. -/
import Derived.Test.YtdljmpjfiggdiaaDoorWxe
import Derived.Test.YtdljmpjfiggdiaaDoorWvh
import Derived.Laws.EntriesVeiled
namespace Go.Proofs.YtdljmpjfiggdiaaDoor
open Go.RowKit
set_option maxRecDepth 100000

def rwA (i : Nat) : Nat := if i = 5 then 32 else 31
def rwB (i : Nat) : Nat := if i = 0 ∨ i = 3 ∨ i = 7 then 32 else if i = 4 ∨ i = 5 then 37 else 31
def rwT (i : Nat) : Nat := if i = 0 then 33 else if i = 1 then 34 else if i = 2 then 35 else if i = 3 then 36 else if i = 4 then 38 else if i = 5 then 39 else if i = 6 then 40 else 41
abbrev rwcs (i : Nat) : Array Value := #[.int .i64 ((i : Int) + 1), Value.func (.func (rwA i)) #[] #[], Value.func (.func (rwB i)) #[] #[], Value.func (.func (rwT i)) #[] #[]]
def KRw : Kd Nat := ⟨fun i => (rwcs i).toList, 4, 0, fun _ => rfl, fun m u hu => by
  simp at hu
  rcases hu with rfl | rfl | rfl | rfl <;> rfl, by decide⟩
def rw8 : List Nat := [0, 1, 2, 3, 4, 5, 6, 7]
theorem rw8_at {i : Nat} (h : i < 8) : rw8.getD i 0 = i := by
  match i, h with
  | 0, _ | 1, _ | 2, _ | 3, _ | 4, _ | 5, _ | 6, _ | 7, _ => rfl
theorem rdRw {w : World} {B o : Nat} (h : RdG KRw w (some ⟨B, o, none⟩) 8 rw8) {i : Nat} (hi : i < 8) : w.cell? ⟨B, o + i * 4, none⟩ = some (.int .i64 ((i : Int) + 1)) ∧ w.cell? ⟨B, o + i * 4 + 1, none⟩ = some (Value.func (.func (rwA i)) #[] #[]) ∧ w.cell? ⟨B, o + i * 4 + 2, none⟩ = some (Value.func (.func (rwB i)) #[] #[]) ∧ w.cell? ⟨B, o + i * 4 + 3, none⟩ = some (Value.func (.func (rwT i)) #[] #[]) := by
  have k := h.get hi
  rw [show rw8.getD i KRw.d = i from rw8_at hi] at k
  exact ⟨k 0 _ rfl, k 1 _ rfl, k 2 _ rfl, k 3 _ rfl⟩
theorem vrows_any (w : World) : Calls Tryd.prog 20 #[] w fun e w' => e = .returned (.slice (some ⟨w.heap.size, 0, none⟩) 8 8) ∧ RdG KRw w' (some ⟨w.heap.size, 0, none⟩) 8 rw8 ∧ Still w w' := by
  go_enter Tryd.func20, Tryd.ntmps20
  go_wp2_with fail
  go_ret
  exact ⟨rfl, rd_blk (heap_alloc_new w _) rw8 (by kernel_rfl) (Nat.le_of_ble_eq_true rfl), Still.alloc w _⟩
/-- block g holds a row of the table -/
def Rwb (w : World) (g : Nat) (a b c d : Value) : Prop := w.heap[g]? = some (.cells #[a, b, c, d] 63 (0, 0))
theorem Rwb.still {w w' : World} {g : Nat} {a b c d : Value} (h : Rwb w g a b c d) (hs : Still w w') : Rwb w' g a b c d := hs.kept_still h
theorem Rwb.cells {w : World} {g : Nat} {a b c d : Value} (h : Rwb w g a b c d) : w.cell? ⟨g, 0, none⟩ = some a ∧ w.cell? ⟨g, 1, none⟩ = some b ∧ w.cell? ⟨g, 2, none⟩ = some c ∧ w.cell? ⟨g, 3, none⟩ = some d ∧ ∀ o, w.frozen? ⟨g, o, none⟩ = false := by
  refine ⟨?_, ?_, ?_, ?_, fun o => frozen_of_row w g o _ _ h⟩ <;> (rw [cell_of_row _ _ _ _ _ _ h]; rfl)
theorem Rwb.put {w : World} {g : Nat} {x y z u : Value} (h : Rwb w g x y z u) (a b c d : Value) : Rwb ((((w.setCell ⟨g, 0, none⟩ a).setCell ⟨g, 1, none⟩ b).setCell ⟨g, 2, none⟩ c).setCell ⟨g, 3, none⟩ d) g a b c d := by
  have h1 := heap_setCell_same w g 0 _ _ a h
  have h2 := heap_setCell_same _ g 1 _ _ b h1
  have h3 := heap_setCell_same _ g 2 _ _ c h2
  have h4 := heap_setCell_same _ g 3 _ _ d h3
  exact h4.trans (by kernel_rfl)
theorem Rwb.load {w : World} {g : Nat} {a b c d : Value} (h : Rwb w g a b c d) : (loadVar 63 ⟨g, 0, none⟩).run Tryd.prog w = .ok (.agg #[a, b, c, d]) w := by
  obtain ⟨c0, c1, c2, c3, cf⟩ := h.cells
  go_simp
theorem Rwb.rest {fn : Func} {p q : Tmp} {w : World} {g : Nat} {a b c d : Value} (hb : Rwb w g a b c d) (h : fn.results = #[.cell p 63, .tmp q]) (tmps : Array Value) (t : Value) (hp : tmps.getD p undef = .pointer (some ⟨g, 0, none⟩)) (hq : tmps.getD q undef = t) :
    (results fn tmps).run Tryd.prog w = .ok (.tuple #[.agg #[a, b, c, d], t]) w := by
  have hp' : tmps[p]?.getD undef = .pointer (some ⟨g, 0, none⟩) := by simpa using hp
  have hq' : tmps[q]?.getD undef = t := by simpa using hq
  simp [results, h, hp', hq', asAddr, hb.load]
abbrev rwz : Array Value := #[.int .i64 0, .nilFunc, .nilFunc, .nilFunc]
set_option maxHeartbeats 4000000 in
theorem rowOf_yes (j : Nat) (hj : j < 8) (ao : Option Addr) (cap : Nat) (w : World) (hr : RdG KRw w ao 8 rw8) : Calls Tryd.prog 21 #[.slice ao 8 cap, .int .i64 ((j : Int) + 1)] w fun e w' => e = .returned (.tuple #[.agg (rwcs j), .bool true]) ∧ Still w w' := by
  have HR := hid hr
  have A0 := Still.alloc w (.cells rwz 63)
  have p0 : Rwb (w.alloc (.cells rwz 63)) w.heap.size (.int .i64 0) .nilFunc .nilFunc .nilFunc := heap_alloc_new w _
  have HS0 := hid A0
  clear hr A0
  go_enter Tryd.func21, Tryd.ntmps21
  go_wp2_with fail
  go_loopw [10] (fun u wr => ∃ i : Nat, i ≤ j ∧ u = .int .i64 (i : Int) ∧ Rwb wr w.heap.size (.int .i64 0) .nilFunc .nilFunc .nilFunc ∧ Still w wr) (fun u _ => 8 - (intOf u).toNat)
  case atStart => exact ⟨0, by omega, rfl, p0, HS0.out⟩
  case round =>
    obtain ⟨i, hi, rfl, p1, hs⟩ := hrel
    have hlt : (i : Int) < 8 := by omega
    have hr1 := HR.out.still hs
    obtain ⟨B, o, rfl⟩ := hr1.at (by omega)
    obtain ⟨c0, c1, c2, c3⟩ := rdRw hr1 (i := i) (by omega)
    have HS1 := hid hs
    have HP1 := hid p1
    have A2 := Still.alloc wr (.cells (rwcs i) 63)
    have p2 : Rwb (wr.alloc (.cells (rwcs i) 63)) wr.heap.size (.int .i64 ((i : Int) + 1)) (Value.func (.func (rwA i)) #[] #[]) (Value.func (.func (rwB i)) #[] #[]) (Value.func (.func (rwT i)) #[] #[]) := heap_alloc_new wr _
    have HP2 := hid (p1.still A2)
    have HS2 := hid (hs.trans A2)
    obtain ⟨ga, ega⟩ : ∃ x, rwA i = x := ⟨_, rfl⟩
    obtain ⟨gb, egb⟩ : ∃ x, rwB i = x := ⟨_, rfl⟩
    obtain ⟨gt, egt⟩ : ∃ x, rwT i = x := ⟨_, rfl⟩
    have HG := hid (And.intro ega (And.intro egb egt))
    unfold rwcs at p2 HP2 HS2
    rw [ega] at c1 p2 HP2 HS2
    rw [egb] at c2 p2 HP2 HS2
    rw [egt] at c3 p2 HP2 HS2
    obtain ⟨d0, d1, d2, d3, df⟩ := p2.cells
    by_cases hij : i < j
    · have b1 : (((i : Int) + 1) == ((j : Int) + 1)) = false := by
        simp
        omega
      clear hr1 hs p1 p0 HS0 A2 p2 ega egb egt
      go_wp2_with fail
      go_roundw
      case rel => exact ⟨i + 1, by omega, by go_num, HP2.out, HS2.out⟩
      case measure => first | (simp [intOf]; done) | (simp [intOf]; omega)
    · obtain rfl : i = j := by omega
      have b1 : (((i : Int) + 1) == ((i : Int) + 1)) = true := by simp
      obtain ⟨W2, eW2⟩ : ∃ X, wr.alloc (.cells #[.int .i64 ((i : Int) + 1), Value.func (.func ga) #[] #[], Value.func (.func gb) #[] #[], Value.func (.func gt) #[] #[]] 63) = X := ⟨_, rfl⟩
      rw [eW2] at HP2 HS2 d0 d1 d2 d3 df
      obtain ⟨e0, e1, e2, e3, ef⟩ := HP2.out.cells
      have HQ := hid (HP2.out.put (.int .i64 ((i : Int) + 1)) (Value.func (.func ga) #[] #[]) (Value.func (.func gb) #[] #[]) (Value.func (.func gt) #[] #[]))
      clear hr1 hs p1 p0 HS0 A2 p2 ega egb egt
      go_wp2_with fail
      (try simp only [Exit.inBlock, Exit.then])
      (first | rw [Exit.noGoto_ret] | skip)
      refine bodyPost_ret (Rwb.rest HQ.out rfl _ _ rfl rfl) rfl ⟨?_, ?_⟩
      · obtain ⟨h1, h2, h3⟩ := HG.out
        subst h1 h2 h3
        rfl
      · exact Fr.setCell (Fr.setCell (Fr.setCell (Fr.setCell HS2.out _ _ (.inr (Nat.le_refl _))) _ _ (.inr (Nat.le_refl _))) _ _ (.inr (Nat.le_refl _))) _ _ (.inr (Nat.le_refl _))
set_option maxHeartbeats 4000000 in
theorem rowOf_no (kd : Int) (hk : ∀ j : Nat, j < 8 → kd ≠ (j : Int) + 1) (ao : Option Addr) (cap : Nat) (w : World) (hr : RdG KRw w ao 8 rw8) : Calls Tryd.prog 21 #[.slice ao 8 cap, .int .i64 kd] w fun e w' => e = .returned (.tuple #[.agg rwz, .bool false]) ∧ Still w w' := by
  have HR := hid hr
  have HK := hid hk
  have A0 := Still.alloc w (.cells rwz 63)
  have p0 : Rwb (w.alloc (.cells rwz 63)) w.heap.size (.int .i64 0) .nilFunc .nilFunc .nilFunc := heap_alloc_new w _
  have HS0 := hid A0
  clear hr A0 hk
  go_enter Tryd.func21, Tryd.ntmps21
  go_wp2_with fail
  go_loopw [10] (fun u wr => ∃ i : Nat, i ≤ 8 ∧ u = .int .i64 (i : Int) ∧ Rwb wr w.heap.size (.int .i64 0) .nilFunc .nilFunc .nilFunc ∧ Still w wr) (fun u _ => 8 - (intOf u).toNat)
  case atStart => exact ⟨0, by omega, rfl, p0, HS0.out⟩
  case round =>
    obtain ⟨i, hi, rfl, p1, hs⟩ := hrel
    by_cases hin : i < 8
    · have hlt : (i : Int) < 8 := by omega
      have hr1 := HR.out.still hs
      obtain ⟨B, o, rfl⟩ := hr1.at (by omega)
      obtain ⟨c0, c1, c2, c3⟩ := rdRw hr1 (i := i) (by omega)
      have A2 := Still.alloc wr (.cells (rwcs i) 63)
      have p2 : Rwb (wr.alloc (.cells (rwcs i) 63)) wr.heap.size (.int .i64 ((i : Int) + 1)) (Value.func (.func (rwA i)) #[] #[]) (Value.func (.func (rwB i)) #[] #[]) (Value.func (.func (rwT i)) #[] #[]) := heap_alloc_new wr _
      have HP2 := hid (p1.still A2)
      have HS2 := hid (hs.trans A2)
      have b1 : (((i : Int) + 1) == kd) = false := by
        have := HK.out i hin
        simp
        omega
      obtain ⟨ga, ega⟩ : ∃ x, rwA i = x := ⟨_, rfl⟩
      obtain ⟨gb, egb⟩ : ∃ x, rwB i = x := ⟨_, rfl⟩
      obtain ⟨gt, egt⟩ : ∃ x, rwT i = x := ⟨_, rfl⟩
      unfold rwcs at p2 HP2 HS2
      rw [ega] at c1 p2 HP2 HS2
      rw [egb] at c2 p2 HP2 HS2
      rw [egt] at c3 p2 HP2 HS2
      obtain ⟨d0, d1, d2, d3, df⟩ := p2.cells
      clear hr1 hs p1 p0 HS0 A2 p2 ega egb egt
      go_wp2_with fail
      go_roundw
      case rel => exact ⟨i + 1, by omega, by go_num, HP2.out, HS2.out⟩
      case measure => first | (simp [intOf]; done) | (simp [intOf]; omega)
    · have hge : ¬ (i : Int) < 8 := by omega
      have HS1 := hid hs
      have HQ := hid (p1.put (.int .i64 0) .nilFunc .nilFunc .nilFunc)
      obtain ⟨e0, e1, e2, e3, ef⟩ := p1.cells
      clear hs p1 p0 HS0 hin
      go_wp2_with fail
      (try simp only [Exit.inBlock, Exit.then])
      (first | rw [Exit.noGoto_ret] | skip)
      refine bodyPost_ret (Rwb.rest HQ.out rfl _ _ rfl rfl) rfl ⟨rfl, ?_⟩
      exact Fr.setCell (Fr.setCell (Fr.setCell (Fr.setCell HS1.out _ _ (.inr (Nat.le_refl _))) _ _ (.inr (Nat.le_refl _))) _ _ (.inr (Nat.le_refl _))) _ _ (.inr (Nat.le_refl _))
end Go.Proofs.YtdljmpjfiggdiaaDoor
