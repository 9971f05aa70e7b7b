/- What bytes say, as the document's eye reads them: machines beside the parser. No function of the program is named here. -/
import Derived.Test.YtaaongbdincimaaGreatDoorWpc
set_option maxRecDepth 100000
namespace Go.Proofs.YtaaongbdincimaaGreatDoor.Wp
open Cp Vp
set_option linter.unusedVariables false

/-- a number without a sign, at most so great -/
def eUpM (m : Nat) : Mch Nat := fun s => if (!s.y && (decide ((unM s).1 ≤ m) && decide ((unM s).2.e = 0))) = true then ((unM s).1, ⟨(unM s).2.bs, (unM s).2.e, false⟩) else (0, ⟨(unM s).2.bs, (unM s).2.e, true⟩)
theorem eUp_le (m : Nat) (s : Rs) : (eUpM m s).1 ≤ m := by
  unfold eUpM
  split
  · rename_i h
    simp only [Bool.and_eq_true, decide_eq_true_eq] at h
    exact h.2.1
  · exact Nat.zero_le _
theorem un_e {s : Rs} (h : s.e ≠ 0) : (unM s).2.e ≠ 0 := by simp [unM, uintS, h]
theorem by_e {s : Rs} (h : s.e ≠ 0) : (byM s).2.e ≠ 0 := by simp [byM, byteS, h]
theorem par_eup (m : Nat) : Par (eUpM m) (pUp m) := by
  refine (par_up m).like (fun s hs => ?_) (fun bs => ?_)
  · unfold eUpM
    rw [if_neg]
    · exact .inr rfl
    · simp only [Bool.and_eq_true, decide_eq_true_eq, Bool.not_eq_true']
      rintro ⟨h1, _, h2⟩
      rcases hs with h | h
      · exact un_e h h2
      · rw [h] at h1; cases h1
  · have e1 : upM m ⟨bs, 0, false⟩ = (if (unM ⟨bs, 0, false⟩).1 ≤ m then mR (unM ⟨bs, 0, false⟩).1 else mB (mG false) fun _ => mR 0) (unM ⟨bs, 0, false⟩).2 := rfl
    rw [e1]
    unfold eUpM
    by_cases h1 : (unM ⟨bs, 0, false⟩).1 ≤ m
    · by_cases h2 : (unM ⟨bs, 0, false⟩).2.e = 0
      · rw [if_pos h1, if_pos (by simp [h1, h2])]
        exact .inl rfl
      · rw [if_pos h1, if_neg (by simp [h2])]
        exact .inr ⟨.inl h2, .inr rfl⟩
    · rw [if_neg h1, if_neg (by simp [h1])]
      exact .inr ⟨bad_false _ _, .inr rfl⟩
/-- a command -/
def eOkC (s : Rs) : Bool := !s.y && (dsB (inM s).1 && (isV (nm (byM (inM s).2).1) && decide ((byM (inM s).2).2.e = 0)))
def eCmM (mk f sq : Int) : Mch Cc := fun s =>
  if eOkC s = true then mB (opM (nOp (nm (byM (inM s).2).1)) 0 (0, 0, 0)) (fun t => mR ⟨IntKind.i64.wrap (mk + (inM s).1), f, sq, nm (byM (inM s).2).1, t.1, t.2.1, t.2.2⟩) ⟨(byM (inM s).2).2.bs, (byM (inM s).2).2.e, false⟩
  else (zC, ⟨(byM (inM s).2).2.bs, (byM (inM s).2).2.e, true⟩)
theorem in_e {s : Rs} (h : s.e ≠ 0) : (inM s).2.e ≠ 0 := un_e h
theorem par_ecm (mk f sq : Int) : Par (eCmM mk f sq) (pC mk f sq) := by
  refine (par_cm mk f sq).like (fun s hs => ?_) (fun bs => ?_)
  · unfold eCmM
    rw [if_neg]
    · exact .inr rfl
    · unfold eOkC
      simp only [Bool.and_eq_true, decide_eq_true_eq, Bool.not_eq_true']
      rintro ⟨h1, _, _, h2⟩
      rcases hs with h | h
      · exact by_e (in_e h) h2
      · rw [h] at h1; cases h1
  · have hy : (inM ⟨bs, 0, false⟩).2.y = false := rfl
    have e1 : cmM mk f sq ⟨bs, 0, false⟩ = mB (opM (nOp (nm (byM (inM ⟨bs, 0, false⟩).2).1)) 0 (0, 0, 0)) (fun t => mR ⟨IntKind.i64.wrap (mk + (inM ⟨bs, 0, false⟩).1), f, sq, nm (byM (inM ⟨bs, 0, false⟩).2).1, t.1, t.2.1, t.2.2⟩) ⟨(byM (inM ⟨bs, 0, false⟩).2).2.bs, (byM (inM ⟨bs, 0, false⟩).2).2.e, (false || !dsB (inM ⟨bs, 0, false⟩).1) || !isV (nm (byM (inM ⟨bs, 0, false⟩).2).1)⟩ := rfl
    rw [e1]
    unfold eCmM
    by_cases h : eOkC ⟨bs, 0, false⟩ = true
    · rw [if_pos h]
      unfold eOkC at h
      simp only [Bool.and_eq_true, decide_eq_true_eq, Bool.not_eq_true'] at h
      left
      rw [h.2.1, h.2.2.1]
      rfl
    · rw [if_neg h]
      refine .inr ⟨?_, .inr rfl⟩
      refine ((par_op _ _ _).bind fun t => Par.ret _).bad _ ?_
      by_cases k : (byM (inM ⟨bs, 0, false⟩).2).2.e = 0
      · right
        dsimp only
        unfold eOkC at h
        cases k1 : dsB (inM ⟨bs, 0, false⟩).1 with
        | false => rfl
        | true =>
          cases k2 : isV (nm (byM (inM ⟨bs, 0, false⟩).2).1) with
          | false => rfl
          | true => exact absurd (by rw [k1, k2, k]; rfl) h
      · exact .inl k
theorem Par.stop {α : Type} {g : Mch α} {p : Prs α} (h : Par g p) (v : Rs → α) : Par (fun s => if s.y = true then (v s, s) else g s) p := by
  refine h.like (fun s hs => ?_) (fun bs => .inl ?_)
  · by_cases hy : s.y = true
    · rw [if_pos hy]; exact hs
    · rw [if_neg hy]; exact h.bad s hs
  · rfl
def eCsM (mk f fi : Int) : Nat → Nat → Mch (List Cc)
  | 0, _ => mR []
  | k + 1, i => fun s => if s.y = true then ([], s) else (mB (eCmM mk f (fi + i)) fun x => mB (eCsM mk f fi k (i + 1)) fun l => mR (x :: l)) s
theorem par_ecs (mk f fi : Int) : ∀ k i, Par (eCsM mk f fi k i) (pCs mk f fi k i)
  | 0, _ => Par.ret _
  | k + 1, i => ((par_ecm mk f (fi + i)).bind fun x => (par_ecs mk f fi k (i + 1)).bind fun l => Par.ret _).stop fun _ => []
/-- behind the head -/
def eTlM (k : UInt8) (ss f t : Int) : Mch Dg :=
  if nm k = 1 then mB (eUpM 1099511627776) fun mk => mB (eUpM 1099511627776) fun fi => mB (eUpM 336) fun n => mB (eCsM mk f fi n 0) fun l => mB (eUpM 1099511627776) fun ak => mR ⟨1, ss, f, t, mk, fi, l, ak⟩
  else mB (eUpM 1099511627776) fun ak => mR ⟨nm k, ss, f, t, 0, 0, [], ak⟩
def kdB (c k : UInt8) : Bool := c == 101 && (k == 1 || k == 2)
def eDgM : Mch Dg := mB byM fun c => mB byM fun k => mB (mG (kdB c k)) fun _ => mB (fuM 8 0 0) fun ss => mB byM fun f => mB byM fun t => eTlM k ss (nm f) (nm t)
def pT2 (k : UInt8) (ss f t : Int) : Prs Dg :=
  if nm k = 1 then pB (pUp 1099511627776) fun mk => pB (pUp 1099511627776) fun fi => pB (pUp 336) fun n => pB (pCs mk f fi n 0) fun l => pB (pUp 1099511627776) fun ak => pR ⟨1, ss, f, t, mk, fi, l, ak⟩
  else pB (pUp 1099511627776) fun ak => pR ⟨nm k, ss, f, t, 0, 0, [], ak⟩
def pDg2 : Prs Dg := pB pY fun c => pB pY fun k => pB (pG (kdB c k)) fun _ => pB (pF 8 0 0) fun ss => pB pY fun f => pB pY fun t => pT2 k ss (nm f) (nm t)
theorem par_etl (k : UInt8) (ss f t : Int) : Par (eTlM k ss f t) (pT2 k ss f t) := by
  unfold eTlM pT2
  by_cases h1 : nm k = 1
  · rw [if_pos h1, if_pos h1]
    exact (par_eup _).bind fun mk => (par_eup _).bind fun fi => (par_eup _).bind fun n => (par_ecs _ _ _ _ _).bind fun l => (par_eup _).bind fun ak => Par.ret _
  · rw [if_neg h1, if_neg h1]
    exact (par_eup _).bind fun ak => Par.ret _
theorem par_edg2 : Par eDgM pDg2 := par_by.bind fun c => par_by.bind fun k => (Par.guard _).bind fun _ => (par_fu _ _ _).bind fun ss => par_by.bind fun f => par_by.bind fun t => par_etl _ _ _ _
theorem pB_none {α β : Type} {p : Prs α} {q : α → Prs β} (h : ∀ v bs, q v bs = none) (bs : List UInt8) : pB p q bs = none := by
  unfold pB
  cases p bs with
  | none => rfl
  | some x => exact h _ _
theorem nm_eq (k : UInt8) (n : Nat) (hn : n < 256) : nm k = (n : Int) ↔ k = UInt8.ofNat n := by
  unfold nm
  constructor
  · intro h
    rw [show n = k.toNat by omega]
    simp
  · rintro rfl
    rw [ofNat_toNat hn]
theorem pDg_two : pDg2 = pDg := by
  funext bs
  cases bs with
  | nil => rfl
  | cons c r =>
    cases r with
    | nil =>
      have e1 : pDg2 [c] = none := rfl
      have e2 : pDg [c] = pB (pG (c == 101)) (fun _ => pB pY fun k => pB (pF 8 0 0) fun ss => pB pY fun f => pB pY fun t => pT k ss (nm f) (nm t)) [] := rfl
      rw [e1, e2]
      cases h : (c == 101) <;> rfl
    | cons k r =>
      have e1 : pDg2 (c :: k :: r) = pB (pG (kdB c k)) (fun _ => pB (pF 8 0 0) fun ss => pB pY fun f => pB pY fun t => pT2 k ss (nm f) (nm t)) r := rfl
      have e2 : pDg (c :: k :: r) = pB (pG (c == 101)) (fun _ => pB pY fun k => pB (pF 8 0 0) fun ss => pB pY fun f => pB pY fun t => pT k ss (nm f) (nm t)) (k :: r) := rfl
      rw [e1, e2]
      cases h : (c == 101) with
      | false => unfold kdB; rw [h]; rfl
      | true =>
        unfold kdB
        rw [h]
        show pB (pG (k == 1 || k == 2)) (fun _ => pB (pF 8 0 0) fun ss => pB pY fun f => pB pY fun t => pT2 k ss (nm f) (nm t)) r = pB (pF 8 0 0) (fun ss => pB pY fun f => pB pY fun t => pT k ss (nm f) (nm t)) r
        by_cases h1 : nm k = 1
        · have e1 : k = 1 := (nm_eq k 1 (by decide)).1 h1
          subst e1
          rfl
        · by_cases h2 : nm k = 2
          · have e1 : k = 2 := (nm_eq k 2 (by decide)).1 h2
            subst e1
            rfl
          · have g1 : (k == 1) = false := by
              rw [beq_eq_false_iff_ne]; rintro rfl; exact h1 rfl
            have g2 : (k == 2) = false := by
              rw [beq_eq_false_iff_ne]; rintro rfl; exact h2 rfl
            rw [g1, g2]
            symm
            refine (pB_none (fun ss b1 => pB_none (fun f b2 => pB_none (fun t b3 => ?_) _) _) _).trans rfl
            unfold pT
            rw [if_neg h1, if_neg h2]
            rfl
theorem par_edg : Par eDgM pDg := pDg_two ▸ par_edg2
end Go.Proofs.YtaaongbdincimaaGreatDoor.Wp
