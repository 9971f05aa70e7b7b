/- A word and up to three numbers, taken out of a text by the program. -/
import Derived.Test.YtlaehphhfeoklaaDoorYr
import Derived.Test.YtlaehphhfeoklaaDoorYs
namespace Go.Proofs.YtlaehphhfeoklaaDoor
open Go.RowKit
open Vp
set_option maxRecDepth 100000

theorem split_le : ∀ (k : Nat) (s : ByteArray), ∀ x ∈ Lib.splitB blk 0 k s, x.size ≤ s.size
  | 0, s, x, h => by
    rw [Lib.splitB_zero, List.mem_singleton] at h
    subst h
    exact Nat.le_refl _
  | k + 1, s, x, h => by
    rcases Lib.indexB_cases s blk with hix | ⟨i, hix, hroom⟩
    · rw [Lib.splitB_miss blk 0 _ s hix, List.mem_singleton] at h
      subst h
      exact Nat.le_refl _
    · rw [Lib.splitB_hit blk 0 k s i hix] at h
      rcases List.mem_cons.1 h with rfl | h
      · rw [ByteArray.size_extract]; omega
      · have := split_le k _ x h
        rw [ByteArray.size_extract] at this
        omega
theorem split_ne (k : Nat) (s : ByteArray) : ∃ h l, Lib.splitB blk 0 k s = h :: l := by
  cases k with
  | zero => exact ⟨_, _, rfl⟩
  | succ k =>
    rcases Lib.indexB_cases s blk with hix | ⟨i, hix, hroom⟩
    · exact ⟨_, _, Lib.splitB_miss blk 0 _ s hix⟩
    · exact ⟨_, _, Lib.splitB_hit blk 0 k s i hix⟩
/-- block B holds these words, and room for N -/
def Wb (w : World) (B : Nat) (ps : List ByteArray) (N : Nat) : Prop := w.heap[B]? = some (.cells (Lib.cellsOf ps N) 9 (0, 0))
theorem Wb.on {F : Nat → Prop} {w w' : World} {B N : Nat} {ps : List ByteArray} (h : Wb w B ps N) (hs : Fr F w w') (hF : ¬ F B) : Wb w' B ps N := hs.kept h hF
theorem Wb.at {w : World} {B N : Nat} {ps : List ByteArray} (h : Wb w B ps N) (j : Nat) (hj : j < ps.length) : w.cell? ⟨B, j, none⟩ = some (.string ps[j]) := by
  rw [cell_of_row _ _ _ _ _ _ h]
  unfold Lib.cellsOf
  rw [List.getElem?_toArray, List.getElem?_append_left (by simpa using hj), List.getElem?_map, List.getElem?_eq_getElem hj]
  rfl
theorem Wb.next {w : World} {B N : Nat} {x : ByteArray} {qs : List ByteArray} (h : Wb w B (x :: qs) N) (k : Nat) (hk : k < qs.length) : w.cell? ⟨B, 1 + k, none⟩ = some (.string qs[k]) := by
  have := h.at (k + 1) (by simpa using hk)
  rw [show 1 + k = k + 1 by omega]
  exact this
theorem Wb.fr {w : World} {B N : Nat} {ps : List ByteArray} (h : Wb w B ps N) : ∀ o, w.frozen? ⟨B, o, none⟩ = false := fun o => frozen_of_row w B o _ _ h
/-- words read as numbers, all of them or none -/
def rdL : List ByteArray → Option (List Int)
  | [] => some []
  | x :: l => match rdN x.data.toList with
    | none => none
    | some n => (rdL l).map (n :: ·)
theorem rdL_snoc : ∀ (l : List ByteArray) (L : List Int) (x : ByteArray) (n : Int), rdL l = some L → rdN x.data.toList = some n → rdL (l ++ [x]) = some (L ++ [n])
  | [], L, x, n, h, hx => by
    simp only [rdL, Option.some.injEq] at h
    subst h
    simp [rdL, hx]
  | y :: l, L, x, n, h, hx => by
    simp only [rdL] at h
    cases hy : rdN y.data.toList with
    | none => rw [hy] at h; cases h
    | some m =>
      rw [hy] at h
      simp only [Option.map_eq_some_iff] at h
      obtain ⟨L', h', rfl⟩ := h
      have := rdL_snoc l L' x n h' hx
      simp [rdL, hy, this]
theorem rdL_bad : ∀ (l : List ByteArray) (x : ByteArray), x ∈ l → rdN x.data.toList = none → rdL l = none
  | [], x, h, _ => by cases h
  | y :: l, x, h, hx => by
    rcases List.mem_cons.1 h with rfl | h
    · simp [rdL, hx]
    · have := rdL_bad l x h hx
      simp only [rdL]
      cases rdN y.data.toList with
      | none => rfl
      | some m => simp [this]
theorem N3.on {F : Nat → Prop} {w w' : World} {g : Nat} {a b c : Int} (h : N3 w g a b c) (hs : Fr F w w') (hF : ¬ F g) : N3 w' g a b c := hs.kept h hF
/-- one number more -/
theorem N3.more {w : World} {g : Nat} {L : List Int} (h : N3 w g (L.getD 0 0) (L.getD 1 0) (L.getD 2 0)) (hL : L.length < 3) (n : Int) : N3 (w.setCell ⟨g, L.length, none⟩ (.int .i64 n)) g ((L ++ [n]).getD 0 0) ((L ++ [n]).getD 1 0) ((L ++ [n]).getD 2 0) := by
  have h1 := heap_setCell_same w g L.length _ _ (.int .i64 n) h
  unfold N3
  rw [h1]
  match L, hL with
  | [], _ => rfl
  | [x], _ => rfl
  | [x, y], _ => rfl
/-- what is read out of these words -/
def RdV (h : ByteArray) (qs : List ByteArray) (v a b c : Int) (is : Bool) : Prop :=
  (is = false ∧ v = 0 ∧ a = 0 ∧ b = 0 ∧ c = 0 ∧ (3 < qs.length ∨ rdL qs = none)) ∨ (is = true ∧ qs.length ≤ 3 ∧ ∃ L, rdL qs = some L ∧ v = nrV h ∧ a = L.getD 0 0 ∧ b = L.getD 1 0 ∧ c = L.getD 2 0)
theorem Orb.lt {w : World} {g : Nat} {v a b c : Int} (h : Orb w g v a b c) : g < w.heap.size := block_lt h
set_option maxHeartbeats 4000000 in
theorem read_long (s h : ByteArray) (qs : List ByteArray) (hp : pcs s = h :: qs) (hs : s.size ≤ 140737488355328) (hl : 3 < qs.length) (w : World) : Calls Tryd.prog 28 #[.string s] w fun e w' => e = .returned (.tuple #[od 0 0 0 0, .bool false]) ∧ Still w w' := by
  have p := newO_orb w 0 0 0 0
  have HS0 := hid (Still.alloc w (.cells #[.int .i64 0, .int .i64 0, .int .i64 0, .int .i64 0] 32))
  have H := hid (split5 s hs (newO w 0 0 0 0))
  rw [hp] at H
  have hl4 : 4 < (h :: qs).length := by simp; omega
  obtain ⟨m, em⟩ : ∃ m, (h :: qs).length = m := ⟨_, rfl⟩
  rw [em] at H hl4
  have hl4i : (4 : Int) < (m : Int) := by omega
  clear em hl hp hs
  go_enter Tryd.func28, Tryd.ntmps28
  go_wp2_with fail
  refine H.out.mono ?_
  rintro e w1 ⟨N, hN, rfl, hw⟩
  have HS1 := hid (hw ▸ HS0.out.trans (Still.alloc _ _))
  have p1 : Orb w1 w.heap.size 0 0 0 0 := hw ▸ p.still (Still.alloc _ _)
  clear hw HS0 p
  obtain ⟨c0, c1, c2, c3, cf⟩ := p1.cells
  go_wp2_with fail
  exact bodyPost_ret ((p1.set 0 0 0 0).rest rfl _ _ rfl rfl) rfl ⟨rfl, setO_fr HS1.out _ _ _ _ _ (.inr (Nat.le_refl _))⟩
/-- the words behind the first: where they lie -/
theorem sl_words (B m N : Nat) (h : m + 1 ≤ N) : ∃ o, (∀ w, (Instr.sliceAt 60 (.slice (some ⟨B, 0, none⟩) (m + 1) N) (some (.int .i64 1)) none none).run Tryd.prog w = .ok (.slice (some ⟨B, o, none⟩) m (N - 1)) w) ∧ (0 < m → o = 1) := by
  have h1 : (1 : Int) ≤ (m : Int) + 1 := by omega
  have h2 : (1 : Int) ≤ (N : Int) := by omega
  have h3 : (m : Int) + 1 ≤ (N : Int) := by omega
  by_cases hN : N = 1
  · subst hN
    obtain rfl : m = 0 := by omega
    exact ⟨0, fun w => by go_simp, fun h => by omega⟩
  · have h4 : ¬ N - 1 = 0 := by omega
    exact ⟨1, fun w => by go_simp, fun _ => rfl⟩
set_option maxHeartbeats 8000000 in
theorem read_short (s h : ByteArray) (qs : List ByteArray) (hp : pcs s = h :: qs) (hs : s.size ≤ 140737488355328) (hl : qs.length ≤ 3) (w : World) (ht : PTab w) : Calls Tryd.prog 28 #[.string s] w fun e w' => ∃ v a b c is, e = .returned (.tuple #[od v a b c, .bool is]) ∧ RdV h qs v a b c is ∧ Still w w' := by
  have p := newO_orb w 0 0 0 0
  have HS0 := hid (Still.alloc w (.cells #[.int .i64 0, .int .i64 0, .int .i64 0, .int .i64 0] 32))
  have H := hid (split5 s hs (newO w 0 0 0 0))
  rw [hp, List.length_cons] at H
  have HZ : Hid (∀ x ∈ qs, x.size ≤ 140737488355328) := hid (fun x hx => Nat.le_trans (split_le _ s x (by rw [show Lib.splitB blk 0 (min 5 (s.size + 1) - 1) s = h :: qs from hp]; exact List.mem_cons_of_mem _ hx)) hs)
  obtain ⟨m, em⟩ : ∃ m, qs.length = m := ⟨_, rfl⟩
  have HM := hid em
  rw [em] at H hl
  have hli : decide ((4 : Int) < (m : Int) + 1) = false := by simp; omega
  clear em hp hs
  go_enter Tryd.func28, Tryd.ntmps28
  go_wp2_with fail
  refine H.out.mono ?_
  rintro e w1 ⟨N, hN, rfl, hw⟩
  have HS1 := hid (hw ▸ HS0.out.trans (Still.alloc _ _))
  have p1 : Orb w1 w.heap.size 0 0 0 0 := hw ▸ p.still (Still.alloc _ _)
  have b1 : Wb w1 (newO w 0 0 0 0).heap.size (h :: qs) N := hw ▸ heap_alloc_new _ _
  rw [sz] at b1 ⊢
  clear hw HS0 p H
  have hNi : (m : Int) + 1 ≤ (N : Int) := by omega
  obtain ⟨o, hsl, ho⟩ := sl_words (w.heap.size + 1) m N hN
  have HO := hid ho
  clear ho
  go_wp2_with fail
  have A1 := Still.alloc w1 (.cells #[.int .i64 0, .int .i64 0, .int .i64 0] 41)
  have n2 := newN3 w1 0 0 0
  have p2 := p1.still A1
  have b2 := b1.on A1 (fun e => e)
  have HS2 := hid (HS1.out.trans A1)
  have HB := hid (And.intro (block_lt b1) p1.lt)
  obtain ⟨W, eW⟩ : ∃ W, w1.alloc (.cells #[.int .i64 0, .int .i64 0, .int .i64 0] 41) = W := ⟨_, rfl⟩
  rw [eW] at n2 p2 b2 HS2 ⊢
  obtain ⟨g, eg⟩ : ∃ g, w1.heap.size = g := ⟨_, rfl⟩
  rw [eg] at n2 HB ⊢
  clear A1 eW eg p1 b1 HS1 hsl
  go_loopw [19] (fun i wr => ∃ (k : Nat) (L : List Int), k ≤ m ∧ L.length = k ∧ i = .int .i64 (k : Int) ∧ Hid (rdL (qs.take k) = some L) ∧ N3 wr g (L.getD 0 0) (L.getD 1 0) (L.getD 2 0) ∧ Fr (fun b => b = g) W wr) (fun i _ => m - (intOf i).toNat)
  case atStart => exact ⟨0, [], by omega, rfl, rfl, hid rfl, n2, Fr.refl _ _⟩
  case round =>
    obtain ⟨k, L, hk, hL, rfl, HR, n3, hf⟩ := hrel
    have hb := HB.out
    have b3 := b2.on hf (by omega)
    have p3 : Orb wr w.heap.size 0 0 0 0 := hf.kept p2 (by omega)
    have HS3 : Hid (Still w wr) := hid (Fr.trans HS2.out hf (fun j h1 h2 => by omega))
    have HF := hid hf
    clear hf n2 hb
    by_cases hkm : k < m
    · obtain rfl := HO.out (by omega)
      have hkq : k < qs.length := by rw [HM.out]; exact hkm
      have d0 := b3.next k hkq
      have hki : (k : Int) < (m : Int) := by omega
      have hk3 : (k : Int) < 3 := by omega
      have HA := hid (atoi_any qs[k] (HZ.out _ (List.getElem_mem hkq)) wr (ht.still HS3.out))
      have HT := hid (fun (n : Int) (hn : rdN qs[k].data.toList = some n) => show rdL (qs.take (k + 1)) = some (L ++ [n]) by rw [List.take_succ_eq_append_getElem hkq]; exact rdL_snoc _ _ _ n HR.out hn)
      have HX := hid (fun (hn : rdN qs[k].data.toList = none) => rdL_bad qs qs[k] (List.getElem_mem hkq) hn)
      obtain ⟨x, ex⟩ : ∃ x, qs[k] = x := ⟨_, rfl⟩
      rw [ex] at d0 HA HT HX
      clear ex
      go_wp2_with fail
      refine HA.out.mono ?_
      rintro e w4 ⟨n, y, rfl, hy, h4⟩
      have n4 := n3.on h4 (fun e => e)
      have p4 := p3.still h4
      have HS4 := hid (HS3.out.trans h4)
      have HF4 : Hid (Fr (fun b => b = g) W w4) := hid (Fr.trans HF.out h4 (fun _ _ e => e.elim))
      clear h4 n3 p3 HS3 HF HA b3 d0
      rcases hy with ⟨rfl, hn⟩ | ⟨⟨T, q, rfl⟩, hn⟩
      · have HN := hid (HT.out n hn)
        have c0 := n4.cells
        have cg : ∃ u, w4.cell? ⟨g, k, none⟩ = some u := by
          match k, hk3 with
          | 0, _ => exact ⟨_, c0.1⟩
          | 1, _ => exact ⟨_, c0.2.1⟩
          | 2, _ => exact ⟨_, c0.2.2.1⟩
          | j + 3, h => exact absurd h (by omega)
        obtain ⟨u, cu⟩ := cg
        have cf := c0.2.2.2
        clear hn HT HX c0
        go_wp2_with fail
        refine ⟨⟨k + 1, L ++ [n], by omega, by simp [hL], by simp, HN, ?_, HF4.out.setCell _ _ (.inl rfl)⟩, by simp [intOf]; omega⟩
        subst hL
        exact n4.more (by omega) n
      · have HN := hid (HX.out hn)
        obtain ⟨c0, c1, c2, c3, cf⟩ := p4.cells
        clear hn HT HX
        go_wp2_with fail
        exact bodyPost_ret ((p4.set 0 0 0 0).rest rfl _ _ rfl rfl) rfl ⟨0, 0, 0, 0, false, rfl, .inl ⟨rfl, rfl, rfl, rfl, rfl, .inr HN.out⟩, setO_fr HS4.out _ _ _ _ _ (.inr (Nat.le_refl _))⟩
    · have hkm' : ¬ (k : Int) < (m : Int) := by omega
      have HN : Hid (rdL qs = some L) := hid (by rw [← HR.out, List.take_of_length_le (by rw [HM.out]; omega)])
      have d0 := Cl.cell (b3.at 0 (by simp))
      rw [List.getElem_cons_zero] at d0
      obtain ⟨e0, e1, e2, ef⟩ := n3.cells
      have d1 := Cl.cell e0
      have d2 := Cl.cell e1
      have d3 := Cl.cell e2
      have hne := Aft.here wr
      have HV := hid (fun z : Aft wr => nr_any h z.u)
      have HMM := hid (show qs.length ≤ 3 by rw [HM.out]; exact hl)
      obtain ⟨x1, ex1⟩ : ∃ x, L.getD 0 0 = x := ⟨_, rfl⟩
      obtain ⟨x2, ex2⟩ : ∃ x, L.getD 1 0 = x := ⟨_, rfl⟩
      obtain ⟨x3, ex3⟩ : ∃ x, L.getD 2 0 = x := ⟨_, rfl⟩
      obtain ⟨x0, ex0⟩ : ∃ x, nrV h = x := ⟨_, rfl⟩
      rw [ex1] at d1
      rw [ex2] at d2
      rw [ex3] at d3
      rw [ex0] at HV
      have HE : Hid (RdV h qs x0 x1 x2 x3 true) := hid (.inr ⟨rfl, HMM.out, L, HN.out, ex0.symm, ex1.symm, ex2.symm, ex3.symm⟩)
      clear ex0 ex1 ex2 ex3 e0 e1 e2 ef HN HR b3 n3
      go_wp2_with fail
      refine region_rest 11 (by kernel_rfl) (by kernel_rfl) ?_
      simp only [List.take_succ_cons, List.take_zero, List.drop_succ_cons, List.drop_zero]
      repeat (go_big_quiet_step ((first | (go_at_call 39; exact Calls.cl (HV.out _)))))
      refine wpQuiet_nil ?_
      intro w5 h5
      have p5 := p3.still h5
      have HS5 := hid (HS3.out.trans h5)
      obtain ⟨c0, c1, c2, c3, cf⟩ := p5.cells
      clear h5 d0 d1 d2 d3 HV hne
      go_wp2_with fail
      (try simp only [Exit.inBlock, Exit.then])
      exact bodyPost_ret ((p5.set _ _ _ _).rest rfl _ _ rfl rfl) rfl ⟨x0, x1, x2, x3, true, rfl, HE.out, setO_fr HS5.out _ _ _ _ _ (.inr (Nat.le_refl _))⟩
theorem read_any (s : ByteArray) (hs : s.size ≤ 140737488355328) (w : World) (ht : PTab w) : Calls Tryd.prog 28 #[.string s] w fun e w' => ∃ v a b c is, e = .returned (.tuple #[od v a b c, .bool is]) ∧ (∃ h qs, pcs s = h :: qs ∧ RdV h qs v a b c is) ∧ Still w w' := by
  obtain ⟨h, qs, hp⟩ := split_ne (min 5 (s.size + 1) - 1) s
  by_cases hl : qs.length ≤ 3
  · refine (read_short s h qs hp hs hl w ht).mono ?_
    rintro e w' ⟨v, a, b, c, is, he, hr, hst⟩
    exact ⟨v, a, b, c, is, he, ⟨h, qs, hp, hr⟩, hst⟩
  · refine (read_long s h qs hp hs (by omega) w).mono ?_
    rintro e w' ⟨he, hst⟩
    exact ⟨0, 0, 0, 0, false, he, ⟨h, qs, hp, .inl ⟨rfl, rfl, rfl, rfl, rfl, .inl (by omega)⟩⟩, hst⟩
end Go.Proofs.YtlaehphhfeoklaaDoor
