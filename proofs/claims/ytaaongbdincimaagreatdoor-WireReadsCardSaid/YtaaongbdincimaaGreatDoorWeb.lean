/- The document's eye: its parts. -/
import Derived.Test.YtaaongbdincimaaGreatDoorWea
import Derived.Test.YtaaongbdincimaaGreatDoorWra
import Derived.Test.YtaaongbdincimaaGreatDoorK2c
import Derived.Test.YtaaongbdincimaaGreatDoorWdc
namespace Go.Proofs.YtaaongbdincimaaGreatDoor
open Go.RowKit
open Wp Vp
set_option maxRecDepth 100000
set_option linter.unusedVariables false
set_option linter.unusedSimpArgs false

/-- the eye in block q (its reader in block p): the state s -/
structure Ez (w : World) (q p : Nat) (s : Rs) : Prop where
  box : w.heap[q]? = some (.cells #[.pointer (some ⟨p, 0, none⟩), .bool (!s.y)] 65 (0, 0))
  rd : ∃ ao n cap B At, Rf w p ao n cap B At s.e ∧ B.drop At = s.bs ∧ Ub w ao
  nq : q ≠ p
theorem Ez.still {w w' : World} {q p : Nat} {s : Rs} (h : Ez w q p s) (hs : Still w w') : Ez w' q p s := by
  obtain ⟨ao, n, cap, B, At, h1, h2, h3⟩ := h.rd
  exact ⟨hs.kept_still h.box, ⟨ao, n, cap, B, At, h1.still hs, h2, h3.kept hs (fun _ _ e => e)⟩, h.nq⟩
theorem Ez.cells {w : World} {q p : Nat} {s : Rs} (h : Ez w q p s) : w.cell? ⟨q, 0, none⟩ = some (.pointer (some ⟨p, 0, none⟩)) ∧ w.cell? ⟨q, 1, none⟩ = some (.bool (!s.y)) ∧ ∀ o, w.frozen? ⟨q, o, none⟩ = false := by
  refine ⟨?_, ?_, fun o => frozen_of_row w q o _ _ h.box⟩ <;> (rw [cell_of_row _ _ _ _ _ _ h.box]; rfl)
theorem Ez.err {w : World} {q p : Nat} {s : Rs} (h : Ez w q p s) : w.cell? ⟨p, 2, none⟩ = some (.int .i64 s.e) := by
  obtain ⟨ao, n, cap, B, At, h1, h2, h3⟩ := h.rd
  rw [cell_of_row _ _ _ _ _ _ h1.blk]; rfl
theorem Ez.lt {w : World} {q p : Nat} {s : Rs} (h : Ez w q p s) : q < w.heap.size ∧ p < w.heap.size := by
  obtain ⟨ao, n, cap, B, At, h1, h2, h3⟩ := h.rd
  exact ⟨block_lt h.box, block_lt h1.blk⟩
structure Te (w w' : World) (q p : Nat) (s : Rs) : Prop where
  r : Ez w' q p s
  f : Fr (RF q p) w w'
theorem Te.trans {w w1 w2 : World} {q p : Nat} {s s2 : Rs} (h : Te w w1 q p s) (k : Te w1 w2 q p s2) : Te w w2 q p s2 := ⟨k.r, h.f.trans k.f (fun _ _ h => h)⟩
theorem Te.still {w w1 w2 : World} {q p : Nat} {s : Rs} (h : Te w w1 q p s) (k : Still w1 w2) : Te w w2 q p s := ⟨h.r.still k, h.f.trans k (fun _ _ e => e.elim)⟩
theorem Te.from {w w1 w2 : World} {q p : Nat} {s : Rs} (k : Still w w1) (h : Te w1 w2 q p s) : Te w w2 q p s := ⟨h.r, (Still.to k).trans h.f (fun _ _ h => h)⟩
theorem Te.same {w w' : World} {q p : Nat} {s : Rs} (h : Ez w q p s) (hs : Still w w') : Te w w' q p s := ⟨h.still hs, Still.to hs⟩
theorem Te.of {w w' : World} {q p : Nat} {s : Rs} {ao : Option Addr} {n cap : Nat} {B bs : List UInt8} {e : Int} (h : Ez w q p s) (ha : Ub w ao) (hp : ∃ cs, w.heap[p]? = some (.cells cs 86 (0, 0))) (k : TookF w w' p ao n cap B bs e) : Te w w' q p ⟨bs, e, s.y⟩ := by
  obtain ⟨At', h1, h2, h3⟩ := k
  obtain ⟨cs, hp⟩ := hp
  exact ⟨⟨h3.kept h.box h.nq, ⟨ao, n, cap, B, At', h1, h2, ha.kept h3 (ha.ne hp (by decide))⟩, h.nq⟩, h3.mono fun k _ e => .inl e⟩
/-- the eye's word is turned -/
theorem Ez.put {w : World} {q p : Nat} {s : Rs} (h : Ez w q p s) (b : Bool) : Te w (w.setCell ⟨q, 1, none⟩ (.bool b)) q p ⟨s.bs, s.e, !b⟩ := by
  obtain ⟨ao, n, cap, B, At, h1, h2, h3⟩ := h.rd
  have hf : Fr (fun k => k = q) w (w.setCell ⟨q, 1, none⟩ (.bool b)) := (Fr.refl _ w).setCell ⟨q, 1, none⟩ _ (.inl rfl)
  refine ⟨⟨?_, ⟨ao, n, cap, B, At, h1.kept hf (fun e => h.nq e.symm) (fun a ha _ => h3.ne h.box (by decide) a ha), h2, h3.kept hf (h3.ne h.box (by decide))⟩, h.nq⟩, hf.mono fun k _ e => .inr e⟩
  rw [heap_setCell_same _ q 1 _ _ _ h.box]
  cases b <;> rfl
theorem ebyte_any (q p : Nat) (s : Rs) (w : World) (h : Ez w q p s) : Calls Tryz.prog 50 #[.pointer (some ⟨p, 0, none⟩)] w fun r w' => r = .returned (.int .u8 (nm (byM s).1)) ∧ Te w w' q p (byM s).2 := by
  obtain ⟨ao, n, cap, B, At, h1, h2, h3⟩ := h.rd
  refine (fbyte_any p ao n cap B At s.e w h1).mono ?_
  rintro r w' ⟨rfl, ht⟩
  rw [h2] at ht ⊢
  exact ⟨rfl, Te.of h h3 ⟨_, h1.blk⟩ ht⟩
theorem euint_any (q p : Nat) (s : Rs) (w : World) (h : Ez w q p s) : Calls Tryz.prog 75 #[.pointer (some ⟨p, 0, none⟩)] w fun r w' => r = .returned (.int .u64 ((unM s).1 : Int)) ∧ Te w w' q p (unM s).2 := by
  obtain ⟨ao, n, cap, B, At, h1, h2, h3⟩ := h.rd
  refine (fuint_any p ao n cap B At s.e w h1).mono ?_
  rintro r w' ⟨rfl, ht⟩
  rw [h2] at ht ⊢
  exact ⟨rfl, Te.of h h3 ⟨_, h1.blk⟩ ht⟩
theorem eint_any (q p : Nat) (s : Rs) (w : World) (h : Ez w q p s) : Calls Tryz.prog 76 #[.pointer (some ⟨p, 0, none⟩)] w fun r w' => r = .returned (.int .i64 (inM s).1) ∧ Te w w' q p (inM s).2 := by
  obtain ⟨ao, n, cap, B, At, h1, h2, h3⟩ := h.rd
  refine (fint_any p ao n cap B At s.e w h1).mono ?_
  rintro r w' ⟨rfl, ht⟩
  rw [h2] at ht ⊢
  exact ⟨rfl, Te.of h h3 ⟨_, h1.blk⟩ ht⟩
theorem edone_any (q p : Nat) (s : Rs) (w : World) (h : Ez w q p s) : Calls Tryz.prog 53 #[.pointer (some ⟨p, 0, none⟩)] w fun r w' => r = .returned (.int .i64 (if s.e = 0 ∧ 0 < s.bs.length then 23 else s.e)) ∧ Still w w' := by
  obtain ⟨ao, n, cap, B, At, h1, h2, h3⟩ := h.rd
  have := fdone_any p ao n cap B At s.e w h1
  rw [h2] at this
  exact this
set_option maxHeartbeats 2000000 in
theorem eup_any (q p : Nat) (s : Rs) (m : Nat) (hm : m ≤ 1099511627776) (w : World) (h : Ez w q p s) : Calls Tryz.prog 51 #[.pointer (some ⟨q, 0, none⟩), .int .u64 (m : Int)] w fun r w' => r = .returned (.int .i64 ((eUpM m s).1 : Int)) ∧ Te w w' q p (eUpM m s).2 := by
  obtain ⟨c0, _, _⟩ := h.cells
  have HC := hid (euint_any q p s w h)
  have HE : Hid (eUpM m s = if (!s.y && (decide ((unM s).1 ≤ m) && decide ((unM s).2.e = 0))) = true then ((unM s).1, ⟨(unM s).2.bs, (unM s).2.e, false⟩) else (0, ⟨(unM s).2.bs, (unM s).2.e, true⟩)) := hid rfl
  have HY : Hid ((unM s).2.y = s.y) := hid rfl
  have hlt := unM_lt s
  obtain ⟨N, S, eN⟩ : ∃ N S, unM s = (N, S) := ⟨_, _, rfl⟩
  rw [eN] at HC HE HY hlt
  dsimp only at HC HE HY hlt
  clear h eN
  obtain ⟨y, ey⟩ : ∃ y, s.y = y := ⟨_, rfl⟩
  rw [ey] at HE HY
  clear ey
  have fin : ∀ (b : Bool) (w1 : World), Te w w1 q p S → Te w (w1.setCell ⟨q, 1, none⟩ (.bool b)) q p ⟨S.bs, S.e, !b⟩ := fun b w1 h1 => h1.trans (h1.r.put b)
  have HF := hid fin
  clear fin
  obtain ⟨R, eR⟩ : ∃ R, eUpM m s = R := ⟨_, rfl⟩
  rw [eR] at HE ⊢
  clear eR
  cases y with
  | true =>
    go_enter Tryz.func51, Tryz.ntmps51
    go_wp2_with fail
    refine HC.out.mono ?_
    rintro e w1 ⟨he, h1⟩
    rw [he]
    obtain ⟨d0, d1, df⟩ := h1.r.cells
    rw [HY.out] at d1
    have d2 := h1.r.err
    have HH := hid h1
    clear he h1 c0 HC
    go_wp2_with fail
    go_ret
    exact ⟨by rw [HE.out]; rfl, by rw [HE.out]; exact HF.out false w1 HH.out⟩
  | false =>
    by_cases hle : N ≤ m
    · have hle' : (N : Int) ≤ (m : Int) := by omega
      have hcv : IntKind.i64.wrap (N : Int) = (N : Int) := by rw [IntKind.wrap_i64]; omega
      by_cases he0 : S.e = 0
      · go_enter Tryz.func51, Tryz.ntmps51
        go_wp2_with fail
        refine HC.out.mono ?_
        rintro e w1 ⟨he, h1⟩
        rw [he]
        obtain ⟨d0, d1, df⟩ := h1.r.cells
        rw [HY.out] at d1
        have d2 := h1.r.err
        have HH := hid h1
        clear he h1 c0 HC
        rw [he0] at d2
        go_wp2_with fail
        go_ret
        have e1 : R = (N, ⟨S.bs, S.e, false⟩) := by rw [HE.out, if_pos (by simp [hle, he0])]
        exact ⟨by rw [e1]; rfl, by rw [e1]; exact HF.out true w1 HH.out⟩
      · go_enter Tryz.func51, Tryz.ntmps51
        go_wp2_with fail
        refine HC.out.mono ?_
        rintro e w1 ⟨he, h1⟩
        rw [he]
        obtain ⟨d0, d1, df⟩ := h1.r.cells
        rw [HY.out] at d1
        have d2 := h1.r.err
        have HH := hid h1
        have hb : (S.e == 0) = false := by simpa using he0
        clear he h1 c0 HC
        go_wp2_with fail
        go_ret
        have e1 : R = (0, ⟨S.bs, S.e, true⟩) := by rw [HE.out, if_neg (by simp [he0])]
        exact ⟨by rw [e1]; rfl, by rw [e1]; exact HF.out false w1 HH.out⟩
    · have hle' : ¬ (N : Int) ≤ (m : Int) := by omega
      go_enter Tryz.func51, Tryz.ntmps51
      go_wp2_with fail
      refine HC.out.mono ?_
      rintro e w1 ⟨he, h1⟩
      rw [he]
      obtain ⟨d0, d1, df⟩ := h1.r.cells
      rw [HY.out] at d1
      have d2 := h1.r.err
      have HH := hid h1
      clear he h1 c0 HC
      go_wp2_with fail
      go_ret
      have e1 : R = (0, ⟨S.bs, S.e, true⟩) := by rw [HE.out, if_neg (by simp [hle])]
      exact ⟨by rw [e1]; rfl, by rw [e1]; exact HF.out false w1 HH.out⟩
end Go.Proofs.YtaaongbdincimaaGreatDoor
