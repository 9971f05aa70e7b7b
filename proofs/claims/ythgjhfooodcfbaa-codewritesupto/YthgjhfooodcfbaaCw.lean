/- Contracts: a writer's lay. -/
import Derived.Test.YthgjhfooodcfbaaCf
import Derived.Deep.QuietTactic
import Derived.BigQuiet
namespace Go.Proofs.Ythgjhfooodcfbaa
open Go.RowKit

/-- A block of three cells, none frozen. -/
theorem three {w : World} {p : Nat} {x y z : Value} {t : TypeId} (h : w.heap[p]? = some (.cells #[x, y, z] t (0, 0))) :
    w.cell? ⟨p, 0, none⟩ = some x ∧ w.cell? ⟨p, 1, none⟩ = some y ∧ w.cell? ⟨p, 2, none⟩ = some z ∧ ∀ o, w.frozen? ⟨p, o, none⟩ = false :=
  ⟨by rw [cell_of_row _ _ _ _ _ _ h]; rfl, by rw [cell_of_row _ _ _ _ _ _ h]; rfl, by rw [cell_of_row _ _ _ _ _ _ h]; rfl, fun o => frozen_of_row w p o _ t h⟩
theorem two {w : World} {p : Nat} {x y : Value} {t : TypeId} (h : w.heap[p]? = some (.cells #[x, y] t (0, 0))) :
    w.cell? ⟨p, 0, none⟩ = some x ∧ w.cell? ⟨p, 1, none⟩ = some y ∧ ∀ o, w.frozen? ⟨p, o, none⟩ = false :=
  ⟨by rw [cell_of_row _ _ _ _ _ _ h]; rfl, by rw [cell_of_row _ _ _ _ _ _ h]; rfl, fun o => frozen_of_row w p o _ t h⟩

theorem set0 {w : World} {p : Nat} {x v : Value} {l : List Value} {t : TypeId} (h : w.heap[p]? = some (.cells (x :: l).toArray t (0, 0))) : (w.setCell ⟨p, 0, none⟩ v).heap[p]? = some (.cells (v :: l).toArray t (0, 0)) := by
  rw [heap_setCell_same w p 0 _ t v h]; simp
theorem set1 {w : World} {p : Nat} {x y v : Value} {l : List Value} {t : TypeId} (h : w.heap[p]? = some (.cells (x :: y :: l).toArray t (0, 0))) : (w.setCell ⟨p, 1, none⟩ v).heap[p]? = some (.cells (x :: v :: l).toArray t (0, 0)) := by
  rw [heap_setCell_same w p 1 _ t v h]; simp
theorem set2 {w : World} {p : Nat} {x y z v : Value} {l : List Value} {t : TypeId} (h : w.heap[p]? = some (.cells (x :: y :: z :: l).toArray t (0, 0))) : (w.setCell ⟨p, 2, none⟩ v).heap[p]? = some (.cells (x :: y :: v :: l).toArray t (0, 0)) := by
  rw [heap_setCell_same w p 2 _ t v h]; simp

/-- A writer in block p: its room, what was laid down, its error. -/
structure Wr (w : World) (p : Nat) (ao : Option Addr) (n cap : Nat) (room : Int) (bs : List UInt8) (e : Int) : Prop where
  blk : w.heap[p]? = some (.cells #[.int .i64 room, .slice ao n cap, .int .i64 e] 64 (0, 0))
  own : Ow 5 w ao n cap bs
theorem Wr.lt {w : World} {p : Nat} {ao : Option Addr} {n cap : Nat} {room : Int} {bs : List UInt8} {e : Int} (h : Wr w p ao n cap room bs e) : p < w.heap.size := block_lt h.blk
theorem Wr.apart {w : World} {p : Nat} {ao : Option Addr} {n cap : Nat} {room : Int} {bs : List UInt8} {e : Int} (h : Wr w p ao n cap room bs e) : ∀ a, ao = some a → a.block ≠ p := by
  rintro a ha rfl
  obtain ⟨_, _, cur, hg, _⟩ := h.own.row a ha
  have := h.blk
  rw [hg] at this
  simp at this
theorem Wr.kept {F : Nat → Prop} {w w' : World} {p : Nat} {ao : Option Addr} {n cap : Nat} {room : Int} {bs : List UInt8} {e : Int} (h : Wr w p ao n cap room bs e) (hf : Fr F w w') (hp : ¬ F p) (ha : ∀ a, ao = some a → ¬ F a.block) : Wr w' p ao n cap room bs e :=
  ⟨hf.kept h.blk hp, h.own.kept hf ha⟩
/-- The blocks that a writer writes. -/
def Wf (p : Nat) (ao : Option Addr) (k : Nat) : Prop := k = p ∨ ∃ a, ao = some a ∧ a.block = k
/-- where what is laid down lies now -/
def Later (w : World) (ao ao' : Option Addr) : Prop := ∀ a, ao' = some a → (∃ b, ao = some b ∧ b.block = a.block) ∨ w.heap.size ≤ a.block
theorem Later.refl (w : World) (ao : Option Addr) : Later w ao ao := fun a h => .inl ⟨a, h, rfl⟩

/-- what was laid down stands, whatever was drawn -/
theorem Ow.drewN {e : TypeId} {w : World} {ao : Option Addr} {n cap : Nat} {bs : List UInt8} (h : Ow e w ao n cap bs) (k : Nat) : Ow e (w.drewN k) ao n cap bs := h.kept ((Fr.refl (fun _ => False) w).drewN k) fun _ _ e => e
theorem app_frame {w wr w1 : World} {p : Nat} {ao ao' ao2 : Option Addr} (hfr : Fr (Wf p ao) w wr) (hla : Later w ao ao') (hf2 : Fr (fun k => ∃ a, ao' = some a ∧ a.block = k) wr w1) (hn2 : ∀ a, ao2 = some a → ao' = some a ∨ wr.heap.size ≤ a.block) :
    Fr (Wf p ao) w w1 ∧ Later w ao ao2 := by
  refine ⟨hfr.trans hf2 ?_, fun a ha => ?_⟩
  · rintro k hk ⟨a, h1, rfl⟩
    rcases hla a h1 with ⟨b, h2, h3⟩ | h2
    · exact .inr ⟨b, h2, h3⟩
    · omega
  · rcases hn2 a ha with h1 | h1
    · exact hla a h1
    · exact .inr (Nat.le_trans hfr.size h1)
theorem lay_step {w wr w1 : World} {p : Nat} {ao ao' ao2 : Option Addr} {n cap' n2 cap2 : Nat} {room e : Int} {bs b2 : List UInt8} (hwr : Wr wr p ao' n cap' room bs e) (hfr : Fr (Wf p ao) w wr) (hla : Later w ao ao')
    (ho2 : Ow 5 w1 ao2 n2 cap2 b2) (hf2 : Fr (fun k => ∃ a, ao' = some a ∧ a.block = k) wr w1) (hn2 : ∀ a, ao2 = some a → ao' = some a ∨ wr.heap.size ≤ a.block) :
    Wr (w1.setCell ⟨p, 1, none⟩ (.slice ao2 n2 cap2)) p ao2 n2 cap2 room b2 e ∧ Fr (Wf p ao) w (w1.setCell ⟨p, 1, none⟩ (.slice ao2 n2 cap2)) ∧ Later w ao ao2 := by
  have hb2 := hf2.kept hwr.blk (by rintro ⟨a, h1, h2⟩; exact hwr.apart a h1 h2)
  obtain ⟨hf, hl⟩ := app_frame hfr hla hf2 hn2
  refine ⟨⟨set1 hb2, ho2.kept ((Fr.refl (fun k => k = p) w1).setCell _ _ (.inl rfl)) ?_⟩, hf.setCell _ _ (.inl (.inl rfl)), hl⟩
  rintro a h1 h2
  obtain ⟨_, _, cur, hg, _⟩ := ho2.row a h1
  rw [h2, hb2] at hg
  simp at hg

/-- How many, and which, the first k parts have. -/
def tot (M : Nat → Nat) : Nat → Nat | 0 => 0 | k + 1 => tot M k + M k
def cat (X : Nat → List UInt8) : Nat → List UInt8 | 0 => [] | k + 1 => cat X k ++ X k
theorem tot_mono (M : Nat → Nat) {a b : Nat} (h : a ≤ b) : tot M a ≤ tot M b := by
  induction b with
  | zero => obtain rfl : a = 0 := by omega
            exact Nat.le_refl _
  | succ b ih =>
    by_cases e : a = b + 1
    · subst e; exact Nat.le_refl _
    · have := ih (by omega); simp only [tot]; omega
theorem cat_len (M : Nat → Nat) (X : Nat → List UInt8) (N : Nat) (h : ∀ j, j < N → (X j).length = M j) : (cat X N).length = tot M N := by
  induction N with
  | zero => rfl
  | succ N ih => simp only [cat, tot, List.length_append, ih fun j hj => h j (by omega), h N (by omega)]

/-- What a writer's bytes and error are, when a form is laid down. -/
def layS (room : Int) (bs : List UInt8) (e : Int) (x : List UInt8) : List UInt8 × Int :=
  if e ≠ 0 then (bs, e) else if room < (bs.length : Int) + (x.length : Int) then ([], 22) else (bs ++ x, 0)

set_option maxHeartbeats 1000000 in
set_option maxRecDepth 100000 in
theorem lay_any (p q N : Nat) (ao : Option Addr) (n cap : Nat) (room : Int) (bs : List UInt8) (e : Int) (A : Nat → Option Addr) (M C : Nat → Nat) (X : Nat → List UInt8) (w : World)
    (hw : Wr w p ao n cap room bs e) (hq : ∀ j, j < N → w.cell? ⟨q, j, none⟩ = some (.slice (A j) (M j) (C j))) (hqp : q ≠ p) (hqa : ∀ a, ao = some a → a.block ≠ q) (hql : q < w.heap.size) (hN : N ≤ 1000)
    (hx : ∀ j, j < N → Rd w (A j) (M j) (C j) (X j)) (hxp : ∀ j, j < N → ∀ a, A j = some a → 0 < M j → ¬ Wf p ao a.block)
    (h0 : 0 ≤ room) (h1 : room ≤ 9223372036854775807) (h47 : n + tot M N ≤ 140737488355328) :
    Calls Try.prog 41 #[.pointer (some ⟨p, 0, none⟩), .slice (some ⟨q, 0, none⟩) N N] w fun r w' => r = .returned (.tuple #[]) ∧
      ∃ ao' n' cap', Wr w' p ao' n' cap' room (layS room bs e (cat X N)).1 (layS room bs e (cat X N)).2 ∧ Fr (Wf p ao) w w' ∧ Later w ao ao' := by
  obtain ⟨i0, hi, hz, hs1, hb1⟩ := info_parts info_u8
  obtain ⟨c0, c1, c2, cf⟩ := three hw.blk
  have hlen := hw.own.rd.len
  have HC : Hid ((cat X N).length = tot M N) := cat_len M X N fun j hj => (hx j hj).len
  by_cases he : e = 0
  · subst he
    by_cases hr : room < (n : Int) + (tot M N : Int)
    · have HL : Hid (layS room bs 0 (cat X N) = ([], 22)) := by
        unfold layS; rw [if_neg (by simp), hlen, HC.out, if_pos hr]; exact rfl
      go_enter Try.func41, Try.ntmps41
      go_wp2
      go_loop [4, 16] (fun s i => ∃ k : Nat, k ≤ N ∧ i = .int .i64 (k : Int) ∧ s = .int .i64 (tot M k : Int)) (fun _ i => N - (intOf i).toNat)
      case atStart => exact ⟨0, Nat.zero_le _, rfl, rfl⟩
      case round =>
        obtain ⟨k, hk, rfl, rfl⟩ := hrel
        by_cases hlt : k < N
        · have hc := hq k hlt
          have hmono := tot_mono M (a := k + 1) (b := N) hlt
          simp only [tot] at hmono
          go_wp2
          go_round
          case rel => exact ⟨k + 1, by omega, by go_num, by simp only [tot]; go_num⟩
          case measure => simp [intOf]; omega
        · obtain rfl : k = N := by omega
          go_wp2
          go_quiet (fail)
          go_wp2
          refine bodyPost_ret (results_none rfl _ _ _) rfl ?_
          refine ⟨rfl, none, 0, 0, ?_, (((Fr.refl _ w).drewN _).setCell _ _ (.inl (.inl rfl))).setCell _ _ (.inl (.inl rfl)), fun _ h => by cases h⟩
          rw [HL.out]
          exact ⟨set2 (set1 hw.blk), Ow.empty _ _⟩
    · have HL : Hid (layS room bs 0 (cat X N) = (bs ++ cat X N, 0)) := by
        unfold layS; rw [if_neg (by simp), hlen, HC.out, if_neg hr]; exact rfl
      go_enter Try.func41, Try.ntmps41
      go_wp2
      go_loop [4, 16] (fun s i => ∃ k : Nat, k ≤ N ∧ i = .int .i64 (k : Int) ∧ s = .int .i64 (tot M k : Int)) (fun _ i => N - (intOf i).toNat)
      case atStart => exact ⟨0, Nat.zero_le _, rfl, rfl⟩
      case round =>
        obtain ⟨k, hk, rfl, rfl⟩ := hrel
        by_cases hlt : k < N
        · have hc := hq k hlt
          have hmono := tot_mono M (a := k + 1) (b := N) hlt
          simp only [tot] at hmono
          go_wp2
          go_round
          case rel => exact ⟨k + 1, by omega, by go_num, by simp only [tot]; go_num⟩
          case measure => simp [intOf]; omega
        · obtain rfl : k = N := by omega
          go_wp2
          go_quiet (fail)
          go_wp2
          go_loopw [45] (fun i wr => ∃ j : Nat, j ≤ k ∧ i = .int .i64 (j : Int) ∧ ∃ ao' cap', Wr wr p ao' (n + tot M j) cap' room (bs ++ cat X j) 0 ∧ Fr (Wf p ao) w wr ∧ Later w ao ao') (fun i _ => k - (intOf i).toNat)
          case atStart => exact ⟨0, Nat.zero_le _, rfl, ao, cap, ⟨hw.blk, by simpa [tot, cat] using hw.own.drewN nq⟩, (Fr.refl _ w).drewN _, Later.refl _ _⟩
          case round =>
            obtain ⟨j, hj, rfl, ao', cap', hwr, hfr, hla⟩ := hrel
            clear c0 c1 c2 cf
            obtain ⟨c0, c1, c2, cf⟩ := three hwr.blk
            by_cases hjk : j < k
            · have hc : wr.cell? ⟨q, j, none⟩ = some (.slice (A j) (M j) (C j)) := (hfr.cell hql (fun h => by rcases h with h | ⟨a, h, h'⟩; exact hqp h; exact hqa a h h')).trans (hq j hjk)
              have hmono := tot_mono M (a := j + 1) (b := k) hjk
              simp only [tot] at hmono
              have hrd := (hx j hjk).kept hfr (hxp j hjk)
              have hpa := hwr.apart
              go_wp2_with (at_builtin; refine wpList_app _ rfl _ _ 26 rfl 5 i0 Try.underlying26 hi hz hs1 hb1 ao' (A j) (n + tot M j) cap' (M j) (C j) (bs ++ cat X j) (X j) rfl rfl hwr.own hrd (by omega) ?_; intro ao2 cap2 w1 ho2 hf2 hn2 _; have hb2 := hf2.kept hwr.blk (by rintro ⟨a, h1, h2⟩; exact hpa a h1 h2); obtain ⟨d0, d1, d2, df⟩ := three hb2)
              have R := lay_step hwr hfr hla ho2 hf2 hn2
              go_roundw
              case rel => exact ⟨j + 1, by omega, by go_num, ao2, cap2, by simp only [tot, cat]; rw [← Nat.add_assoc, ← List.append_assoc]; exact R.1, R.2.1, R.2.2⟩
              case measure => simp [intOf]; omega
            · obtain rfl : j = k := by omega
              go_wp2
              go_end0
              refine ⟨rfl, ao', n + tot M j, cap', ?_, hfr, hla⟩
              rw [HL.out]; exact hwr
  · have HL : Hid (layS room bs e (cat X N) = (bs, e)) := by unfold layS; rw [if_pos he]; exact rfl
    have hne : (e != 0) = true := by simpa using he
    go_enter Try.func41, Try.ntmps41
    go_wp2
    refine bodyPost_ret (results_none rfl _ _ _) rfl ?_
    refine ⟨rfl, ao, n, cap, ?_, Fr.refl _ _, Later.refl _ _⟩
    rw [HL.out]; exact hw
end Go.Proofs.Ythgjhfooodcfbaa
