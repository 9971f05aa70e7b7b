/- The law's played. -/
import Derived.Test.YtdmgalaajgebkaaMgn
namespace Go.Proofs.Ytdmgalaajgebkaa
open Go.RowKit
set_option maxRecDepth 100000

/-- a call of a script: its kind, which log, the command with its number -/
structure Ok9 where
  k : Int
  n : Int
  x : En
def zO9 : Ok9 := ⟨0, 0, zE⟩
abbrev ok9 (o : Ok9) : Array Value := #[.int .i64 o.k, .int .i64 o.n, .int .i64 o.x.fr, .int .i64 o.x.pe, .int .i64 o.x.se, .int .i64 o.x.vb, .int .i64 o.x.a, .int .i64 o.x.b, .int .i64 o.x.c, .int .i64 o.x.ms]
abbrev opT : TypeId := 32
def KO9 : Kd Ok9 := ⟨fun o => (ok9 o).toList, 10, zO9, fun _ => rfl, fun m u hu => by
  simp at hu
  rcases hu with rfl | rfl | rfl | rfl | rfl | rfl | rfl | rfl | rfl | rfl <;> rfl, by decide⟩
def Bd9 (o : Ok9) : Prop := (-9223372036854775808 ≤ o.k ∧ o.k ≤ 9223372036854775807) ∧ (-9223372036854775808 ≤ o.n ∧ o.n ≤ 9223372036854775807)
theorem rdO9 {w : World} {B o n : Nat} {L : List Ok9} (h : RdG KO9 w (some ⟨B, o, none⟩) n L) {i : Nat} (hi : i < n) {x : Ok9} (hx : L.getD i KO9.d = x) : w.cell? ⟨B, o + i * 10, none⟩ = some (.int .i64 x.k) ∧ w.cell? ⟨B, o + i * 10 + 1, none⟩ = some (.int .i64 x.n) ∧ w.cell? ⟨B, o + i * 10 + 2, none⟩ = some (.int .i64 x.x.fr) ∧ w.cell? ⟨B, o + i * 10 + 3, none⟩ = some (.int .i64 x.x.pe) ∧ w.cell? ⟨B, o + i * 10 + 4, none⟩ = some (.int .i64 x.x.se) ∧ w.cell? ⟨B, o + i * 10 + 5, none⟩ = some (.int .i64 x.x.vb) ∧ w.cell? ⟨B, o + i * 10 + 6, none⟩ = some (.int .i64 x.x.a) ∧ w.cell? ⟨B, o + i * 10 + 7, none⟩ = some (.int .i64 x.x.b) ∧ w.cell? ⟨B, o + i * 10 + 8, none⟩ = some (.int .i64 x.x.c) ∧ w.cell? ⟨B, o + i * 10 + 9, none⟩ = some (.int .i64 x.x.ms) := by
  subst hx
  exact ⟨h.get hi 0 _ rfl, h.get hi 1 _ rfl, h.get hi 2 _ rfl, h.get hi 3 _ rfl, h.get hi 4 _ rfl, h.get hi 5 _ rfl, h.get hi 6 _ rfl, h.get hi 7 _ rfl, h.get hi 8 _ rfl, h.get hi 9 _ rfl⟩
/-- block g holds a call -/
def Ob9 (w : World) (g : Nat) (o : Ok9) : Prop := w.heap[g]? = some (.cells (ok9 o) opT (0, 0))
theorem Ob9.cells {w : World} {g : Nat} {x : Ok9} (h : Ob9 w g x) : w.cell? ⟨g, 0, none⟩ = some (.int .i64 x.k) ∧ w.cell? ⟨g, 1, none⟩ = some (.int .i64 x.n) ∧ w.cell? ⟨g, 2, none⟩ = some (.int .i64 x.x.fr) ∧ w.cell? ⟨g, 3, none⟩ = some (.int .i64 x.x.pe) ∧ w.cell? ⟨g, 4, none⟩ = some (.int .i64 x.x.se) ∧ w.cell? ⟨g, 5, none⟩ = some (.int .i64 x.x.vb) ∧ w.cell? ⟨g, 6, none⟩ = some (.int .i64 x.x.a) ∧ w.cell? ⟨g, 7, none⟩ = some (.int .i64 x.x.b) ∧ w.cell? ⟨g, 8, none⟩ = some (.int .i64 x.x.c) ∧ w.cell? ⟨g, 9, none⟩ = some (.int .i64 x.x.ms) := by
  refine ⟨?_, ?_, ?_, ?_, ?_, ?_, ?_, ?_, ?_, ?_⟩ <;> (rw [cell_of_row _ _ _ _ _ _ h]; rfl)
theorem heA_np (s : Lgs) (r : Int) : (heA s r).np = s.np ∧ (heA s r).nr = s.nr := ⟨rfl, rfl⟩
theorem puA_np (s : Lgs) (f : Int) : (puA s f).np = s.np ∧ (puA s f).nr = s.nr := by unfold puA; split <;> exact ⟨rfl, rfl⟩
theorem putA_np (s : Lgs) (x : En) (m : Int) : (putA s x m).np = s.np ∧ (putA s x m).nr = s.nr := by unfold putA; split <;> exact ⟨rfl, rfl⟩
/-- a log of so many peers and copies, in new memory -/
def Play (w wr : World) (p : Nat) (a b : Int) : Prop := Still w wr ∧ ∃ s vs, Lm wr w.heap.size p s vs ∧ s.np = a ∧ s.nr = b
theorem Play.still {w wr w' : World} {p : Nat} {a b : Int} (h : Play w wr p a b) (hs : Still wr w') : Play w w' p a b := by
  obtain ⟨h1, s, vs, h2, h3, h4⟩ := h
  exact ⟨h1.trans hs, s, vs, h2.still hs, h3, h4⟩
theorem Play.step {w wr w' : World} {p : Nat} {a b : Int} {s : Lgs} {vs : Nat → Value} (h1 : Still w wr) (h2 : Lm wr w.heap.size p s vs) (hf : Fr (fun k => k = p ∨ Rw vs k) wr w') {s' : Lgs} {vs' : Nat → Value} (h3 : Lm w' w.heap.size p s' vs') (e1 : s'.np = a) (e2 : s'.nr = b) : Play w w' p a b :=
  ⟨Fr.trans h1 hf (fun k hk e => by
    rcases e with e | e
    · have := h2.lo; omega
    · have := (h2.rlt k e).1; omega), s', vs', h3, e1, e2⟩
set_option maxHeartbeats 8000000 in
theorem played_any (a b : Int) (so : Option Addr) (n c : Nat) (L : List Ok9) (ha : -9223372036854775808 ≤ a ∧ a ≤ 9223372036854775807) (hb : -9223372036854775808 ≤ b ∧ b ≤ 9223372036854775807) (hp : ∀ i, i < n → Bd9 (L.getD i KO9.d)) (w : World) (hr : RdG KO9 w so n L) : Calls Try.prog 11 #[.int .i64 a, .int .i64 b, .slice so n c] w fun e w' => ∃ p, e = .returned (.tuple #[.pointer (some ⟨p, 0, none⟩), .int .i64 (2 + pk a 5), .int .i64 (2 + pk b 4)]) ∧ Play w w' p (2 + pk a 5) (2 + pk b 4) := by
  have h47 := hr.2.1
  have HR := hid hr
  have HP := hid hp
  have h1 := pk_in a 5 (by omega)
  have h2 := pk_in b 4 (by omega)
  have HPa := hid (fun w => pick_any a 5 ha (by omega) (by omega) w)
  have HPb := hid (fun w => pick_any b 4 hb (by omega) (by omega) w)
  obtain ⟨A, eA⟩ : ∃ A, pk a 5 = A := ⟨_, rfl⟩
  obtain ⟨D, eD⟩ : ∃ A, pk b 4 = A := ⟨_, rfl⟩
  rw [eA] at h1 HPa ⊢
  rw [eD] at h2 HPb ⊢
  obtain ⟨A2, eA2⟩ : ∃ A', 2 + A = A' := ⟨_, rfl⟩
  obtain ⟨D2, eD2⟩ : ∃ A', 2 + D = A' := ⟨_, rfl⟩
  rw [eA2, eD2]
  have hw1 : IntKind.i64.wrap (2 + A) = A2 := by rw [IntKind.wrap_i64]; omega
  have hw2 : IntKind.i64.wrap (2 + D) = D2 := by rw [IntKind.wrap_i64]; omega
  have HN := hid (fun w => cm_new_yes (a := A2) (b := D2) (by omega) w)
  clear eA eD eA2 eD2 h1 h2 hr hp ha hb
  go_enter Try.func11, Try.ntmps11
  go_wp2_with fail
  refine (HPa.out _).mono ?_
  rintro e w1 ⟨he, hw⟩
  rw [he, hw]
  clear he hw w1 HPa
  go_wp2_with fail
  refine (HPb.out _).mono ?_
  rintro e w1 ⟨he, hw⟩
  rw [he, hw]
  clear he hw w1 HPb
  go_wp2_with fail
  refine (HN.out _).mono ?_
  rintro e w1 ⟨he, hl1, hs1⟩
  rw [he]
  have HPl : Hid (Play w w1 w.heap.size A2 D2) := hid ⟨hs1, _, _, hl1, rfl, rfl⟩
  obtain ⟨p, ep⟩ : ∃ p, w.heap.size = p := ⟨_, rfl⟩
  rw [ep] at HPl ⊢
  have HEp := hid ep
  clear he hl1 hs1 HN ep hw1 hw2
  go_wp2_with fail
  go_loopw [13] (fun u wr => ∃ k : Nat, k ≤ n ∧ u = .int .i64 (k : Int) ∧ Hid (Play w wr p A2 D2)) (fun u _ => n - (intOf u).toNat)
  case atStart => exact ⟨0, by omega, rfl, HPl⟩
  case round =>
    obtain ⟨k, hk, rfl, HK⟩ := hrel
    clear HPl
    by_cases hkn : k < n
    · have hlt : (k : Int) < (n : Int) := by omega
      obtain ⟨G, o, rfl⟩ := HR.out.at (by omega)
      have HB := hid (HP.out k hkn)
      obtain ⟨q, eq⟩ : ∃ q, L.getD k KO9.d = q := ⟨_, rfl⟩
      obtain ⟨c0, c1, c2, c3, c4, c5, c6, c7, c8, c9⟩ := rdO9 (HR.out.still HK.out.1) hkn eq
      rw [eq] at HB
      have HPk := hid (fun w => pick_any q.k 9 HB.out.1 (by omega) (by omega) w)
      have hpk := pk_in q.k 9 (by omega)
      obtain ⟨z, ez⟩ : ∃ z, pk q.k 9 = z := ⟨_, rfl⟩
      rw [ez] at HPk hpk
      have A1 := Still.alloc wr (.cells (ok9 q) opT)
      obtain ⟨d0, d1, d2, d3, d4, d5, d6, d7, d8, d9⟩ := (show Ob9 (wr.alloc (.cells (ok9 q) opT)) wr.heap.size q from heap_alloc_new wr _).cells
      obtain ⟨hs, s, vs, hL, es1, es2⟩ := HK.out.still A1
      have HL := hid hL
      have HS := hid hs
      have HE := hid (And.intro es1 es2)
      obtain ⟨W, eW⟩ : ∃ W, wr.alloc (.cells (ok9 q) opT) = W := ⟨_, rfl⟩
      have HW := hid eW
      rw [eW] at d0 d1 d2 d3 d4 d5 d6 d7 d8 d9 HL HS
      have hBW : w.heap.size ≤ W.heap.size := HS.out.size
      simp only [ok9] at eW
      clear A1 ez hL hs es1 es2 HK eq HB
      go_wp2_with fail
      clear eW
      refine (HPk.out _).mono ?_
      rintro e w2 ⟨he, hw⟩
      rw [he, hw]
      clear he hw w2 HPk c0 c1 c2 c3 c4 c5 c6 c7 c8 c9 HW
      by_cases h4 : z = 4
      · subst h4
        have HC := hid (cm_heal s w.heap.size p vs q.x.ms W HL.out)
        go_wp2_with fail
        refine HC.out.mono ?_
        rintro e w3 ⟨he, hL3, hf3⟩
        rw [he]
        have HK2 : Hid (Play w w3 p A2 D2) := hid (Play.step HS.out HL.out (hf3.mono (fun _ _ h => .inr h)) hL3 HE.out.1 HE.out.2)
        clear he hL3 hf3 HC d0 d1 d2 d3 d4 d5 d6 d7 d8 d9
        go_wp2_with fail
        go_roundw
        case rel => exact ⟨k + 1, by omega, by go_num, HK2⟩
        case measure => simp [intOf]; omega
      · have n4 : (z == 4) = false := beq_eq_false_iff_ne.2 h4
        by_cases h5 : z = 5
        · subst h5
          have HC := hid (cm_purge s w.heap.size p vs q.x.fr W HL.out)
          clear h4
          go_wp2_with fail
          refine HC.out.mono ?_
          rintro e w3 ⟨he, ⟨vs3, hL3, _⟩, hf3⟩
          rw [he]
          have HK2 : Hid (Play w w3 p A2 D2) := hid (Play.step HS.out HL.out (hf3.mono (fun _ _ h => .inl h)) hL3 ((puA_np s q.x.fr).1.trans HE.out.1) ((puA_np s q.x.fr).2.trans HE.out.2))
          clear he hL3 hf3 HC d0 d1 d2 d3 d4 d5 d6 d7 d8 d9
          go_wp2_with fail
          go_roundw
          case rel => exact ⟨k + 1, by omega, by go_num, HK2⟩
          case measure => simp [intOf]; omega
        · have n5 : (z == 5) = false := beq_eq_false_iff_ne.2 h5
          have HC := hid (cm_put s w.heap.size p vs q.x q.x.ms W hBW HL.out)
          clear h4 h5
          go_wp2_with fail
          refine HC.out.mono ?_
          rintro e w3 ⟨he, ⟨vs3, hL3, _⟩, hf3⟩
          rw [he]
          have HK2 : Hid (Play w w3 p A2 D2) := hid (Play.step HS.out HL.out (hf3.mono (fun _ _ h => .inl h)) hL3 ((putA_np s q.x q.x.ms).1.trans HE.out.1) ((putA_np s q.x q.x.ms).2.trans HE.out.2))
          clear he hL3 hf3 HC d0 d1 d2 d3 d4 d5 d6 d7 d8 d9
          go_wp2_with fail
          go_roundw
          case rel => exact ⟨k + 1, by omega, by go_num, HK2⟩
          case measure => simp [intOf]; omega
    · have hge : ¬ (k : Int) < (n : Int) := by omega
      go_wp2_with fail
      go_ret3
      exact ⟨p, rfl, HK.out⟩
end Go.Proofs.Ytdmgalaajgebkaa
