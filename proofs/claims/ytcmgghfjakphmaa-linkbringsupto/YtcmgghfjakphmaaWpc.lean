/- A datagram's bytes, and what they say, lead back. No function of the program is named here. -/
import Derived.Test.YtcmgghfjakphmaaWpa
set_option maxRecDepth 100000
namespace Go.Proofs.Ytcmgghfjakphmaa.Wp
open Cp Vp
set_option linter.unusedVariables false

theorem nOp_0 {v : Int} (h : isV v = false) : nOp v = 0 := by
  unfold nOp opV
  rw [h]
  rfl
theorem chk_is {v a b c : Int} (h : chkO v a b c = 0) : isV v = true ∧ okO v a b c = true := by
  unfold chkO at h
  cases h1 : isV v with
  | false => rw [h1] at h; simp at h
  | true =>
    rw [h1] at h
    cases h2 : okO v a b c with
    | false => rw [h2] at h; simp at h
    | true => exact ⟨rfl, rfl⟩
theorem chk_args {v a b c : Int} (h : chkO v a b c = 0) : (1 ≤ v ∧ v ≤ 7) ∧ (-8 ≤ a ∧ a ≤ 255) ∧ (-8 ≤ b ∧ b ≤ 8) ∧ ((nOp v = 0 ∧ a = 0 ∧ b = 0 ∧ c = 0) ∨ (nOp v = 1 ∧ b = 0 ∧ c = 0) ∨ (nOp v = 2 ∧ c = 0)) := by
  obtain ⟨h1, h2⟩ := chk_is h
  refine ⟨isV_iff.1 h1, ?_⟩
  unfold okO at h2
  simp only [Bool.and_eq_true, decide_eq_true_eq] at h2
  obtain ⟨⟨⟨h3, h4⟩, h5⟩, h6⟩ := h2
  rcases verbs h1 with rfl | rfl | rfl | rfl | rfl | rfl | rfl
  · rw [if_pos rfl] at h5
    simp only [Bool.and_eq_true, decide_eq_true_eq] at h5
    simp only [lo, hi, loL, hiL] at h3 h4
    simp at h3 h4
    exact ⟨by omega, by omega, .inr (.inr ⟨by decide, h6⟩)⟩
  · rw [if_neg (by decide)] at h5
    simp only [decide_eq_true_eq] at h5
    simp only [lo, hi, loL, hiL] at h3 h4
    simp at h3 h4
    exact ⟨by omega, by omega, .inl ⟨by decide, by omega, h5, h6⟩⟩
  all_goals
    rw [if_neg (by decide)] at h5
    simp only [decide_eq_true_eq] at h5
    simp only [lo, hi, loL, hiL] at h3 h4
    simp at h3 h4
    exact ⟨by omega, by omega, .inr (.inl ⟨by decide, h5, h6⟩)⟩
theorem arg0 {v : Int} (h : nOp v = 0) (a b c : Int) : argB v a b c = [] := by unfold argB; rw [h]; rfl
theorem arg1 {v : Int} (h : nOp v = 1) (a b c : Int) : argB v a b c = sgB a := by unfold argB; rw [h]; simp
theorem arg2 {v : Int} (h : nOp v = 2) (a b c : Int) : argB v a b c = sgB a ++ sgB b := by unfold argB; rw [h]; simp
theorem pO_form {v a b c : Int} (h : chkO v a b c = 0) (r : List UInt8) : pO (nOp v) 0 (0, 0, 0) (argB v a b c ++ r) = some ((a, b, c), r) := by
  obtain ⟨_, ha, hb, h0 | h0 | h0⟩ := chk_args h
  · obtain ⟨h0, rfl, rfl, rfl⟩ := h0
    rw [arg0 h0, h0]
    rfl
  · obtain ⟨h0, rfl, rfl⟩ := h0
    rw [arg1 h0, h0]
    show pB pI (fun x => pO 0 1 (put3 (0, 0, 0) 0 x)) _ = _
    rw [pB_at (pI_form (by omega) (by omega) r)]
    rfl
  · obtain ⟨h0, rfl⟩ := h0
    rw [arg2 h0, h0, List.append_assoc]
    show pB pI (fun x => pB pI fun y => pO 0 2 (put3 (put3 (0, 0, 0) 0 x) 1 y)) _ = _
    rw [pB_at (pI_form (by omega) (by omega) _), pB_at (pI_form (by omega) (by omega) r)]
    rfl
theorem pO_back {v : Int} {t : Int × Int × Int} {bs r : List UInt8} (h : pO (nOp v) 0 (0, 0, 0) bs = some (t, r)) : bs = argB v t.1 t.2.1 t.2.2 ++ r := by
  have hn := nOp_le v
  rcases (show nOp v = 0 ∨ nOp v = 1 ∨ nOp v = 2 by omega) with h0 | h0 | h0
  · rw [arg0 h0]
    rw [h0] at h
    cases h
    rfl
  · rw [arg1 h0]
    rw [h0] at h
    obtain ⟨x, u, h1, h2⟩ := pB_some (show pB pI (fun x => pO 0 1 (put3 (0, 0, 0) 0 x)) bs = some (t, r) from h)
    cases h2
    exact (pI_back h1).1
  · rw [arg2 h0]
    rw [h0] at h
    obtain ⟨x, u, h1, h2⟩ := pB_some (show pB pI (fun x => pB pI fun y => pO 0 2 (put3 (put3 (0, 0, 0) 0 x) 1 y)) bs = some (t, r) from h)
    obtain ⟨y, u2, h3, h4⟩ := pB_some h2
    cases h4
    rw [(pI_back h1).1, (pI_back h3).1, List.append_assoc]
    rfl
theorem wr64 {n : Int} (h : -9223372036854775808 ≤ n) (h2 : n ≤ 9223372036854775807) : IntKind.i64.wrap n = n := by
  rw [IntKind.wrap_i64]
  omega
theorem dsB_iff {n : Int} : dsB n = true ↔ -1099511627776 ≤ n ∧ n ≤ 1099511627776 := by simp [dsB]
theorem pG_at {b : Bool} (h : b = true) (bs : List UInt8) : pG b bs = some ((), bs) := by subst h; rfl
theorem pG_some {b : Bool} {bs r : List UInt8} {u : Unit} (h : pG b bs = some (u, r)) : b = true ∧ bs = r := by
  cases b with
  | false => cases h
  | true => cases h; exact ⟨rfl, rfl⟩
theorem pC_form {mk f sq : Int} (hm : 0 ≤ mk ∧ mk ≤ 1099511627776) {x : Cc} (h1 : x.pe = f) (h2 : x.sq = sq) (h3 : 1 ≤ x.fr ∧ x.fr ≤ 1099511627776) (h4 : chkO x.v x.a x.b x.c = 0) (r : List UInt8) : pC mk f sq (cmB mk x ++ r) = some (x, r) := by
  obtain ⟨fr, pe, s, v, a, b, c⟩ := x
  dsimp only at h1 h2 h3 h4
  subst h1 h2
  have hv := (chk_args h4).1
  have hnm : nm (by8 v) = v := by unfold nm; exact by8_to (by omega) (by omega)
  unfold pC cmB
  rw [List.append_assoc, List.cons_append]
  have e1 : pD (sgB (fr - mk) ++ (by8 v :: (argB v a b c ++ r))) = some (fr - mk, by8 v :: (argB v a b c ++ r)) := by
    unfold pD
    rw [pB_at (pI_form (by omega) (by omega) _), pB_at (pG_at (dsB_iff.2 (by omega)) _)]
    rfl
  have e2 : pOr (by8 v :: (argB v a b c ++ r)) = some ((v, a, b, c), r) := by
    unfold pOr
    rw [pB_at (show pY (by8 v :: (argB v a b c ++ r)) = some (by8 v, argB v a b c ++ r) from rfl), pB_at (pG_at (by rw [hnm]; exact (chk_is h4).1) _), hnm, pB_at (pO_form h4 r)]
    rfl
  rw [pB_at e1, pB_at e2]
  show some (_, r) = some (_, r)
  rw [show mk + (fr - mk) = fr by omega, wr64 (by omega) (by omega)]
theorem pC_back {mk f sq : Int} (hm : 0 ≤ mk ∧ mk ≤ 1099511627776) {x : Cc} {bs r : List UInt8} (h : pC mk f sq bs = some (x, r)) : bs = cmB mk x ++ r := by
  obtain ⟨far, t1, h1, h2⟩ := pB_some h
  obtain ⟨o, t2, h3, h4⟩ := pB_some h2
  cases h4
  obtain ⟨far', t3, h5, h6⟩ := pB_some h1
  obtain ⟨_, t4, h7, h8⟩ := pB_some h6
  cases h8
  obtain ⟨h9, rfl⟩ := pG_some h7
  have h9 := dsB_iff.1 h9
  obtain ⟨b, t5, g1, g2⟩ := pB_some h3
  obtain ⟨_, t6, g3, g4⟩ := pB_some g2
  obtain ⟨t, t7, g5, g6⟩ := pB_some g4
  cases g6
  obtain ⟨_, rfl⟩ := pG_some g3
  cases t3 with
  | nil => cases g1
  | cons b' u =>
    cases g1
    unfold cmB
    dsimp only
    rw [wr64 (by omega) (by omega), show mk + far - mk = far by omega, List.append_assoc, List.cons_append, (pI_back h5).1, show by8 (nm b) = b from by8_nat b, ← pO_back g5]
theorem pCs_form {mk f fi : Int} (hm : 0 ≤ mk ∧ mk ≤ 1099511627776) : ∀ (L : List Cc) (i : Nat) (r : List UInt8), (∀ j, j < L.length → okC f fi (i + j) (cc L j) = true) → pCs mk f fi L.length i (csB mk L ++ r) = some (L, r)
  | [], i, r, _ => rfl
  | x :: L, i, r, h => by
    have h0 := h 0 (by simp)
    simp only [okC, Bool.and_eq_true, decide_eq_true_eq, cc, List.getD_cons_zero, Nat.add_zero] at h0
    obtain ⟨h1, h2, h3, h4, h5, h6⟩ := h0
    show pB (pC mk f (fi + i)) (fun x => pB (pCs mk f fi L.length (i + 1)) fun l => pR (x :: l)) _ = _
    rw [show csB mk (x :: L) = cmB mk x ++ csB mk L from rfl, List.append_assoc, pB_at (pC_form hm h1 h2 ⟨h4, h5⟩ h6 _), pB_at (pCs_form hm L (i + 1) r (fun j hj => by
      have := h (j + 1) (by simp; omega)
      rw [show i + 1 + j = i + (j + 1) by omega]
      simpa [cc] using this))]
    rfl
theorem pCs_back {mk f fi : Int} (hm : 0 ≤ mk ∧ mk ≤ 1099511627776) : ∀ (k i : Nat) (L : List Cc) (bs r : List UInt8), pCs mk f fi k i bs = some (L, r) → L.length = k ∧ bs = csB mk L ++ r
  | 0, i, L, bs, r, h => by cases h; exact ⟨rfl, rfl⟩
  | k + 1, i, L, bs, r, h => by
    obtain ⟨x, t, h1, h2⟩ := pB_some (show pB (pC mk f (fi + i)) (fun x => pB (pCs mk f fi k (i + 1)) fun l => pR (x :: l)) bs = some (L, r) from h)
    obtain ⟨l, t2, h3, h4⟩ := pB_some h2
    cases h4
    obtain ⟨e1, e2⟩ := pCs_back hm k (i + 1) l t r h3
    refine ⟨by simp [e1], ?_⟩
    rw [pC_back hm h1, e2, ← List.append_assoc]
    rfl
theorem okD_parts {d : Dg} (h : okD d = true) : (0 ≤ d.fr ∧ d.fr ≤ 5 ∧ 0 ≤ d.to ∧ d.to ≤ 5 ∧ d.fr ≠ d.to) ∧ (0 ≤ d.ak ∧ d.ak ≤ 1099511627776) ∧ ((d.kd = 1 ∧ (0 ≤ d.mrk ∧ d.mrk ≤ 1099511627776) ∧ (1 ≤ d.fi ∧ d.fi ≤ 1099511627776) ∧ d.cs.length ≤ 336 ∧ allC d.fr d.fi d.cs = true) ∨ (d.kd = 2 ∧ d.mrk = 0 ∧ d.fi = 0 ∧ d.cs = [])) := by
  unfold okD seatB ackB at h
  simp only [Bool.and_eq_true, decide_eq_true_eq, Bool.not_eq_true', decide_eq_false_iff_not] at h
  obtain ⟨⟨h1, h2, h3, h4, h5⟩, h6, h7, h8⟩ := h
  refine ⟨⟨h1, h2, h3, h4, h5⟩, ⟨h7, h8⟩, ?_⟩
  unfold prtB at h6
  by_cases k1 : d.kd = 1
  · rw [if_pos k1] at h6
    unfold trnB at h6
    simp only [Bool.and_eq_true, decide_eq_true_eq] at h6
    obtain ⟨g1, g2, g3, g4, g5, g6⟩ := h6
    exact .inl ⟨k1, ⟨g1, g2⟩, ⟨g3, g4⟩, g5, g6⟩
  · rw [if_neg k1] at h6
    by_cases k2 : d.kd = 2
    · rw [if_pos k2] at h6
      unfold nonB at h6
      simp only [Bool.and_eq_true, decide_eq_true_eq] at h6
      exact .inr ⟨k2, h6.1, h6.2.1, List.length_eq_zero_iff.1 h6.2.2⟩
    · rw [if_neg k2] at h6; cases h6
theorem pDg_form {d : Dg} (h : okD d = true) (hs : 0 ≤ d.ss ∧ d.ss < 18446744073709551616) (r : List UInt8) : pDg (opnB d ++ r) = some (d, r) := by
  obtain ⟨h1, h2, h3⟩ := okD_parts h
  obtain ⟨kd, ss, fr, to, mk, fi, cs, ak⟩ := d
  dsimp only at h1 h2 h3 hs
  have ess : ((ss.toNat : Nat) : Int) = ss := by omega
  have eak : ((ak.toNat : Nat) : Int) = ak := by omega
  have n1 : nm (by8 fr) = fr := by unfold nm; exact by8_to (by omega) (by omega)
  have n2 : nm (by8 to) = to := by unfold nm; exact by8_to (by omega) (by omega)
  have n3 : nm (by8 kd) = kd := by unfold nm; rcases h3 with h3 | h3 <;> exact by8_to (by omega) (by omega)
  unfold opnB hdB pDg
  dsimp only
  simp only [List.cons_append, List.append_assoc]
  rw [pB_at (show pY (101 :: _) = some (101, _) from rfl), pB_at (pG_at (by decide) _), pB_at (show pY (by8 kd :: _) = some (by8 kd, _) from rfl), pB_at (pF_form 8 0 0 ss.toNat _ (by omega))]
  simp only [List.nil_append, Nat.zero_add, Nat.pow_zero, Nat.mul_one]
  rw [pB_at (show pY (by8 fr :: _) = some (by8 fr, _) from rfl), pB_at (show pY (by8 to :: _) = some (by8 to, _) from rfl), n1, n2, ess]
  unfold pT tnB
  rw [n3]
  dsimp only
  rcases h3 with ⟨rfl, hm, hf, hl, ha⟩ | ⟨rfl, rfl, rfl, rfl⟩
  · have emk : ((mk.toNat : Nat) : Int) = mk := by omega
    have efi : ((fi.toNat : Nat) : Int) = fi := by omega
    rw [if_pos rfl, if_pos rfl]
    simp only [List.append_assoc]
    rw [pB_at (pUp_form (by omega) (by omega) _), pB_at (pUp_form (by omega) (by omega) _), pB_at (pUp_form hl (by omega) _), emk, efi, pB_at (pCs_form hm cs 0 _ (fun j hj => by rw [Nat.zero_add]; exact allC_iff.1 ha j hj)), pB_at (pUp_form (by omega) (by omega) _)]
    show some (_, r) = some (_, r)
    rw [eak]
  · rw [if_neg (by decide), if_pos rfl, if_neg (by decide), List.nil_append, pB_at (pUp_form (by omega) (by omega) _)]
    show some (_, r) = some (_, r)
    rw [eak]
theorem pDg_back {d : Dg} {bs r : List UInt8} (h : pDg bs = some (d, r)) : bs = opnB d ++ r ∧ 0 ≤ d.ss ∧ d.ss < 18446744073709551616 := by
  obtain ⟨c, t1, h1, h2⟩ := pB_some h
  obtain ⟨_, t2, h3, h4⟩ := pB_some h2
  obtain ⟨e1, rfl⟩ := pG_some h3
  obtain ⟨k, t3, h5, h6⟩ := pB_some h4
  obtain ⟨ss, t4, h7, h8⟩ := pB_some h6
  obtain ⟨f, t5, h9, h10⟩ := pB_some h8
  obtain ⟨t, t6, h11, h12⟩ := pB_some h10
  obtain ⟨m, hm, e2, e3⟩ := pF_back 8 0 0 ss t3 t4 h7
  simp only [Nat.zero_add, Nat.pow_zero, Nat.mul_one] at e2
  subst e2
  have e1 : c = 101 := by simpa using e1
  subst e1
  cases bs with
  | nil => cases h1
  | cons b1 u1 =>
    cases h1
    cases t1 with
    | nil => cases h5
    | cons b2 u2 =>
      cases h5
      cases t4 with
      | nil => cases h9
      | cons b3 u3 =>
        cases h9
        cases t5 with
        | nil => cases h11
        | cons b4 u4 =>
          cases h11
          have hms : ss < 18446744073709551616 := by omega
          rw [e3]
          unfold pT at h12
          by_cases k1 : nm k = 1
          · rw [if_pos k1] at h12
            obtain ⟨mk, u1, g1, g2⟩ := pB_some h12
            obtain ⟨fi, u2, g3, g4⟩ := pB_some g2
            obtain ⟨n, u3, g5, g6⟩ := pB_some g4
            obtain ⟨l, u4, g7, g8⟩ := pB_some g6
            obtain ⟨ak, u5, g9, g10⟩ := pB_some g8
            cases g10
            obtain ⟨i1, i2⟩ := pUp_back g1
            obtain ⟨i3, i4⟩ := pUp_back g3
            obtain ⟨i5, i6⟩ := pUp_back g5
            obtain ⟨i7, i8⟩ := pCs_back (by omega) _ _ _ _ _ g7
            obtain ⟨i9, i10⟩ := pUp_back g9
            refine ⟨?_, by dsimp only; omega, by dsimp only; omega⟩
            unfold opnB hdB tnB
            dsimp only
            rw [if_pos rfl, i1, i3, i5, i8, i9, i7, show by8 1 = k by rw [← k1]; exact by8_nat k, show by8 (nm f) = f from by8_nat f, show by8 (nm t) = t from by8_nat t]
            simp
          · rw [if_neg k1] at h12
            by_cases k2 : nm k = 2
            · rw [if_pos k2] at h12
              obtain ⟨ak, u5, g9, g10⟩ := pB_some h12
              cases g10
              obtain ⟨i9, i10⟩ := pUp_back g9
              refine ⟨?_, by dsimp only; omega, by dsimp only; omega⟩
              unfold opnB hdB tnB
              dsimp only
              rw [if_neg (by decide), i9, show by8 2 = k by rw [← k2]; exact by8_nat k, show by8 (nm f) = f from by8_nat f, show by8 (nm t) = t from by8_nat t]
              simp
            · rw [if_neg k2] at h12; cases h12
theorem says_form {d : Dg} (h : okD d = true) (hs : 0 ≤ d.ss ∧ d.ss < 18446744073709551616) : saysD (opnB d) = some d := by
  have := pDg_form h hs []
  rw [List.append_nil] at this
  unfold saysD
  rw [this]
  rfl
theorem says_back {d : Dg} {B : List UInt8} (h : saysD B = some d) : B = opnB d ∧ 0 ≤ d.ss ∧ d.ss < 18446744073709551616 := by
  unfold saysD at h
  cases hp : pDg B with
  | none => rw [hp] at h; cases h
  | some x =>
    obtain ⟨x, t⟩ := x
    rw [hp] at h
    dsimp only at h
    by_cases ht : t = []
    · rw [if_pos ht] at h
      cases h
      have := pDg_back hp
      rw [ht, List.append_nil] at this
      exact this
    · rw [if_neg ht] at h; cases h
/-- the bytes are few -/
theorem sgB_le {n : Int} (h : -9223372036854775808 ≤ n) (h2 : n ≤ 9223372036854775807) : (sgB n).length ≤ 10 := form_ten (fold_lt h h2)
theorem argB_le {v a b c : Int} (h : chkO v a b c = 0) : (argB v a b c).length ≤ 20 := by
  obtain ⟨_, ha, hb, h0 | h0 | h0⟩ := chk_args h
  · rw [arg0 h0.1]; simp
  · rw [arg1 h0.1]
    have := sgB_le (n := a) (by omega) (by omega)
    omega
  · rw [arg2 h0.1, List.length_append]
    have := sgB_le (n := a) (by omega) (by omega)
    have := sgB_le (n := b) (by omega) (by omega)
    omega
theorem cmB_le {mk : Int} (hm : 0 ≤ mk ∧ mk ≤ 1099511627776) {x : Cc} (h3 : 1 ≤ x.fr ∧ x.fr ≤ 1099511627776) (h4 : chkO x.v x.a x.b x.c = 0) : (cmB mk x).length ≤ 31 := by
  unfold cmB
  rw [List.length_append, List.length_cons]
  have := sgB_le (n := x.fr - mk) (by omega) (by omega)
  have := argB_le h4
  omega
theorem csB_le {mk : Int} (hm : 0 ≤ mk ∧ mk ≤ 1099511627776) : ∀ (L : List Cc), (∀ x ∈ L, (1 ≤ x.fr ∧ x.fr ≤ 1099511627776) ∧ chkO x.v x.a x.b x.c = 0) → (csB mk L).length ≤ 31 * L.length
  | [], _ => by simp [csB]
  | x :: L, h => by
    have h1 := csB_le hm L (fun y hy => h y (List.mem_cons_of_mem _ hy))
    have h2 := cmB_le hm (h x (List.mem_cons_self ..)).1 (h x (List.mem_cons_self ..)).2
    rw [show csB mk (x :: L) = cmB mk x ++ csB mk L from rfl, List.length_append, List.length_cons]
    omega
theorem allC_mem {f fi : Int} {L : List Cc} (h : allC f fi L = true) : ∀ x ∈ L, (1 ≤ x.fr ∧ x.fr ≤ 1099511627776) ∧ chkO x.v x.a x.b x.c = 0 := by
  intro x hx
  obtain ⟨i, hi, e⟩ := List.mem_iff_getElem.1 hx
  have h1 := allC_iff.1 h i hi
  rw [cc_at hi, e] at h1
  simp only [okC, Bool.and_eq_true, decide_eq_true_eq] at h1
  exact ⟨⟨h1.2.2.2.1, h1.2.2.2.2.1⟩, h1.2.2.2.2.2⟩
end Go.Proofs.Ytcmgghfjakphmaa.Wp
