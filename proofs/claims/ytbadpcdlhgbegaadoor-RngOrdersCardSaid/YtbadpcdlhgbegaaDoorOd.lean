/- RngOrders: the walk. -/
import Derived.Test.YtbadpcdlhgbegaaDoorNu
namespace Go.Proofs.YtbadpcdlhgbegaaDoor
open Go.RowKit

theorem Qu.on {F : Nat → Prop} {w w' : World} {b : Nat} {s f u a c : Int} (h : Qu w b s f u a c) (hf : Fr F w w') (hn : ¬ F b) : Qu w' b s f u a c := hf.kept h hn
theorem wipe_step {L : List Int} {i : Nat} (h : i < L.length) : (List.replicate i (-1) ++ L.drop i).set i (-1) = List.replicate (i + 1) (-1) ++ L.drop (i + 1) := by
  rw [List.drop_eq_getElem_cons h, set_midI (by simp), List.replicate_succ', List.append_assoc]
  rfl
theorem wipe_get {L : List Int} {i : Nat} (h : i < L.length) : (List.replicate i (-1) ++ L.drop i)[i]'(by simp; omega) = L[i] := by
  rw [List.getElem_append_right (by simp)]
  simp
set_option maxHeartbeats 4000000 in
set_option maxRecDepth 100000 in
theorem orders_in (s f u c : Int) (n : Nat) (h64 : n ≤ 64) (w : World) (ht : Tab w) :
    Calls Tryd.prog 5 #[.agg #[.int .u64 s, .int .i64 f, .int .i64 u, .int .i64 (n : Int), .int .i64 c]] w fun e w' => e = .returned (.bool true) ∧ Still w w' := by
  have hq := put_qu w s f u (n : Int) c
  have hs0 : Still w (put w s f u (n : Int) c) := Still.alloc w _
  have ht0 := ht.still hs0
  have hg0 := ht.size
  have HO := hid fun w ht => order_some s f u n h64 w ht
  have HRO := hid fun w => rorder_some s f u n h64 w
  have HN := hid (ordL_length (atI s f u) n)
  obtain ⟨i0, hi, hz, hz1, hz2⟩ := info_parts info_int
  obtain ⟨L, eL⟩ : ∃ L, ordL (atI s f u) n = L := ⟨_, rfl⟩
  rw [eL] at HO HRO HN
  clear eL
  go_enter Tryd.func5, Tryd.ntmps5
  go_wp2_with fail
  refine (awake_any _ ht0).mono ?_
  rintro e w1 ⟨rfl, h1⟩
  have q1 := hq.still h1
  have t1 := ht0.still h1
  have s1 := hs0.trans h1
  have hb1 : w.heap.size < w1.heap.size := block_lt q1
  obtain ⟨b, eb⟩ : ∃ b, b = w.heap.size := ⟨_, rfl⟩
  rw [← eb] at q1 hb1 hg0 ⊢
  have EB := hid eb
  clear hq h1 hs0 ht0 ht eb
  obtain ⟨d0, d1, d2, d3, d4⟩ := q1.cells
  go_wp2_with fail
  refine (HO.out w1 t1).mono ?_
  rintro e w2 ⟨g, rfl, ho2, h2, hg2⟩
  have q2 := q1.still h2
  have t2 := t1.still h2
  have s2 := s1.trans h2
  have hgl : g < w2.heap.size := ho2.lt _ rfl
  clear q1 t1 s1 h2 d0 d1 d2 d3 d4
  obtain ⟨d0, d1, d2, d3, d4⟩ := q2.cells
  go_wp2_with fail
  refine (HRO.out w2).mono ?_
  rintro e w3 ⟨ao, cap, rfl, ho3, h3, hao⟩
  have q3 := q2.still h3
  have t3 := t2.still h3
  have s3 := s2.trans h3
  have o3 := ho2.still h3
  have r3 := ho3.rd
  have hgb : ¬ b = g := by omega
  have hg00 : ¬ 0 = g := by omega
  have hgs : b ≤ g := by omega
  have haog : ∀ a, ao = some a → ¬ a.block = g := fun a ha e => by have := hao a ha; omega
  have H3 := hid (And.intro q3 (And.intro t3 (And.intro s3 (And.intro o3 (And.intro r3 (And.intro haog EB.out))))))
  clear q2 t2 s2 h3 ho2 ho3 d0 d1 d2 d3 d4 HRO q3 t3 s3 o3 r3 hao hg2 hb1 hgl hg0 haog EB
  go_wp2_with fail
  go_loopw [8] (fun vi wr => ∃ i : Nat, i ≤ n ∧ vi = .int .i64 (i : Int) ∧ OwI 3 wr (some ⟨g, 0, none⟩) n n (List.replicate i (-1) ++ L.drop i) ∧ Fr (fun k => k = g) w3 wr) (fun vi _ => n - (intOf vi).toNat)
  case atStart => exact ⟨0, Nat.zero_le _, rfl, by simpa using H3.out.2.2.2.1, Fr.refl _ _⟩
  case round =>
    obtain ⟨i, hin, rfl, ow, hf⟩ := hrel
    by_cases hlt : i < n
    · have hil : i < L.length := by have := HN.out; omega
      have rr := H3.out.2.2.2.2.1.kept hf (fun a ha _ => H3.out.2.2.2.2.2.1 a ha)
      obtain ⟨b1, o1, rfl⟩ := rr.addr (by omega)
      have c1 := rr.byte hil
      have c2 := ow.rd.byte (k := i) (by simp; omega)
      rw [wipe_get hil, Nat.zero_add] at c2
      have R := fun k => (ow.still ((Fr.refl (fun _ => False) wr).drewN k)).set (k := i) (x := -1) hlt
      rw [wipe_step hil] at R
      obtain ⟨_, hfz⟩ := ow.cellAt (k := i) hlt
      have R2 := fun k => (hf.drewN k).setCell ⟨g, i, none⟩ (.int .i64 (-1)) (.inl rfl)
      have HR := hid fun k => And.intro (R k) (R2 k)
      obtain ⟨x, ex⟩ : ∃ x, L[i] = x := ⟨_, rfl⟩
      rw [ex] at c1 c2
      clear ex hil rr ow hf R R2 hi hz hz1 hz2
      go_wp2_with fail
      go_quiet (fail)
      go_wp2_with fail
      go_roundw
      case rel => exact ⟨i + 1, by omega, by go_num, (HR.out _).1, (HR.out _).2⟩
      case measure => simp [intOf]; omega
    · have hin2 : i = n := by omega
      subst hin2
      obtain ⟨q3, t3, s3, -, r3, haog, eb⟩ := H3.out
      have q4 := q3.on hf hgb
      have t4 := t3.on hf hg00
      have r4 := r3.kept hf (fun a ha _ => haog a ha)
      have s4 : Still w wr := Fr.trans s3 hf (fun k hk e => by omega)
      have hq4 := block_lt q4
      have hz4 := t4.size
      have h4 := hid (And.intro q4 (And.intro t4 (And.intro r4 (And.intro s4 (And.intro hq4 (And.intro hz4 eb))))))
      have hlow : ∀ a, ao = some a → 0 < i → a.block < wr.heap.size := fun a ha hn => r4.lt hn a ha
      have HLO := hid hlow
      clear q3 t3 s3 r3 q4 t4 r4 s4 hq4 hz4 hf hlow eb
      go_wp2_with (at_builtin; refine wpList_appI _ rfl _ _ 34 rfl 3 i0 Tryd.underlying34 hi hz hz1 hz2 (some ⟨g, 0, none⟩) (some ⟨wr.heap.size, 0, none⟩) i i 1 1 _ [-2] rfl rfl (ow.alloc _) (OwI.one _ wr _).rd (by omega) ?_; intro ao' cap' w4 _ hf' _ _; clear ow; obtain ⟨q4, t4, r4, s4, hq4, hz4, eb⟩ := h4.out; have q5 := (q4.still (Still.alloc wr _)).on hf' (by rintro ⟨a, h1, h2⟩; cases h1; exact hgb h2.symm); have t5 := (t4.still (Still.alloc wr _)).on hf' (by rintro ⟨a, h1, h2⟩; cases h1; exact hg00 h2.symm); have r5 := (r4.alloc _).kept hf' (fun a ha _ => by rintro ⟨a', h1, h2⟩; cases h1; exact haog a ha h2.symm); have s5 : Still w w4 := Fr.trans (Fr.alloc s4 _) hf' (by rintro k hk ⟨a, h1, h2⟩; cases h1; simp at h2; omega); clear q4 t4 r4 s4 hq4 hz4 h4 hf' eb; obtain ⟨d0, d1, d2, d3, d4⟩ := q5.cells)
      refine (HO.out w4 t5).mono ?_
      rintro e w5 ⟨g2, rfl, ho5, h5, _⟩
      have r6 := r5.still h5
      have rm := ho5.rd
      have s6 := s5.trans h5
      have H6 := hid (And.intro r6 (And.intro rm s6))
      clear q5 t5 r5 s5 ho5 h5 r6 rm s6 d0 d1 d2 d3 d4 HO HLO H3
      go_wp2_with fail
      go_loopw [11] (fun vi wt => ∃ j : Nat, j ≤ i ∧ vi = .int .i64 (j : Int) ∧ Still w5 wt) (fun vi _ => i - (intOf vi).toNat)
      case atStart => exact ⟨0, Nat.zero_le _, rfl, Fr.refl _ _⟩
      case round =>
        obtain ⟨j, hj, rfl, hs⟩ := hrel
        by_cases hlt2 : j < i
        · have hil : j < L.length := by have := HN.out; omega
          obtain ⟨r6, rm, s6⟩ := H6.out
          obtain ⟨b1, o1, rfl⟩ := r6.addr (by omega)
          have c1 := (r6.still hs).byte hil
          have c2 := (rm.still hs).byte hil
          rw [Nat.zero_add] at c2
          obtain ⟨x, ex⟩ : ∃ x, L[j] = x := ⟨_, rfl⟩
          rw [ex] at c1 c2
          have HS := hid hs
          clear ex hil hs r6 rm s6 hi hz hz1 hz2
          go_wp2_with fail
          go_quiet (fail)
          go_wp2_with fail
          go_roundw
          case rel => exact ⟨j + 1, by omega, by go_num, HS.out.drewN _⟩
          case measure => simp [intOf]; omega
        · have HS := hid (H6.out.2.2.trans hs)
          clear hs H6 hi hz hz1 hz2
          go_wp2_with fail
          go_ret
          exact ⟨rfl, HS.out⟩
set_option maxHeartbeats 4000000 in
set_option maxRecDepth 100000 in
theorem orders_out (s f u a c : Int) (ha : a < 0 ∨ 64 < a) (w : World) (ht : Tab w) :
    Calls Tryd.prog 5 #[.agg #[.int .u64 s, .int .i64 f, .int .i64 u, .int .i64 a, .int .i64 c]] w fun e w' => e = .returned (.bool true) ∧ Still w w' := by
  have hq := put_qu w s f u a c
  have hs0 : Still w (put w s f u a c) := Still.alloc w _
  have ht0 := ht.still hs0
  have HO := hid fun w => order_none s f u a ha w
  have HRO := hid fun w => rorder_none s f u a ha w
  obtain ⟨i0, hi, hz, hz1, hz2⟩ := info_parts info_int
  clear ha
  go_enter Tryd.func5, Tryd.ntmps5
  go_wp2_with fail
  refine (awake_any _ ht0).mono ?_
  rintro e w1 ⟨rfl, h1⟩
  have q1 := hq.still h1
  have s1 := hs0.trans h1
  obtain ⟨b, eb⟩ : ∃ b, b = w.heap.size := ⟨_, rfl⟩
  rw [← eb] at q1 ⊢
  clear hq h1 hs0 ht0 ht eb
  obtain ⟨d0, d1, d2, d3, d4⟩ := q1.cells
  go_wp2_with fail
  refine (HO.out w1).mono ?_
  rintro e w2 ⟨rfl, rfl⟩
  go_wp2_with fail
  refine (HRO.out _).mono ?_
  rintro e w3 ⟨rfl, rfl⟩
  have H1 := hid (And.intro q1 s1)
  clear d0 d1 d2 d3 d4 q1 s1 HRO
  go_wp2_with fail
  go_loopw [8] (fun vi wr => vi = .int .i64 0 ∧ wr = w3) (fun _ _ => 0)
  case atStart => exact ⟨rfl, rfl⟩
  case round =>
    obtain ⟨rfl, rfl⟩ := hrel
    go_wp2_with (at_builtin; refine wpList_appI _ rfl _ _ 34 rfl 3 i0 Tryd.underlying34 hi hz hz1 hz2 none (some ⟨wr.heap.size, 0, none⟩) 0 0 1 1 [] [-2] rfl rfl (OwI.empty _ _) (OwI.one _ wr _).rd (by omega) ?_; intro ao' cap' w4 _ hf' _ _; obtain ⟨q1, s1⟩ := H1.out; have hf4 : Still (wr.alloc (.cells #[.int .i64 (-2)] 3)) w4 := Fr.mono hf' (fun k hk e => by obtain ⟨a, h1, _⟩ := e; cases h1); have q5 := (q1.still (Still.alloc wr _)).still hf4; have s5 : Still w w4 := Still.trans (Fr.alloc s1 _) hf4; clear q1 s1 hf' hf4 H1; obtain ⟨d0, d1, d2, d3, d4⟩ := q5.cells)
    refine (HO.out w4).mono ?_
    rintro e w5 ⟨rfl, rfl⟩
    have HS := hid s5
    clear d0 d1 d2 d3 d4 q5 s5 hi hz hz1 hz2 HO
    go_wp2_with fail
    go_loopw [11] (fun vi wr => vi = .int .i64 0 ∧ wr = w5) (fun _ _ => 0)
    case atStart => exact ⟨rfl, rfl⟩
    case round =>
      obtain ⟨rfl, rfl⟩ := hrel
      go_wp2_with fail
      go_ret
      exact ⟨rfl, HS.out⟩
theorem orders_law (s f u a c : Int) (_ : AskIn f u a c) (w : World) (ht : Tab w) :
    Calls Tryd.prog 5 #[.agg #[.int .u64 s, .int .i64 f, .int .i64 u, .int .i64 a, .int .i64 c]] w fun e w' => e = .returned (.bool true) ∧ Still w w' := by
  by_cases h : a < 0 ∨ 64 < a
  · exact orders_out s f u a c h w ht
  · obtain ⟨n, rfl⟩ : ∃ n : Nat, a = (n : Int) := ⟨a.toNat, by omega⟩
    exact orders_in s f u c n (by omega) w ht
end Go.Proofs.YtbadpcdlhgbegaaDoor
